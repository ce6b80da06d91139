package audit_test

import (
	"fmt"
	"math/rand"
	"slices"
	"testing"

	"estuary/api"
	"estuary/audit"
	"estuary/world"
)

// anOp: of keys k0 to k5; what it writes is told by the number.
func anOp(dice *rand.Rand, number int) api.Op {
	key, value := fmt.Sprint("k", dice.Intn(6)), fmt.Sprint("v", number)
	switch dice.Intn(16) {
	case 0, 1, 2:
		return get(key)
	case 3, 4:
		return del(key)
	case 5, 6:
		return cas(key, value, dice.Intn(6))
	case 7:
		return between("k1", "k4")
	case 8:
		return batch(value, key, key+"k")
	case 9:
		if dice.Intn(4) == 0 {
			return api.Op{Kind: api.OCompact, Key: key, Version: dice.Intn(api.MaxHistory)}
		}
		fallthrough
	default:
		return put(key, value)
	}
}

// anAct: whatever may happen.
func anAct(dice *rand.Rand, w *world.World) api.Act {
	i, who, key := dice.Intn(w.Bag().Len()+1), dice.Intn(3), fmt.Sprint("k", dice.Intn(6))
	switch what := dice.Intn(60); {
	case what < 24:
		return api.Act{Kind: api.ADeliver, N: i * dice.Intn(4) / 3}
	case what < 26:
		return api.Act{Kind: api.ALose, N: i}
	case what < 29:
		return api.Act{Kind: api.ATwice, N: i}
	case what < 36:
		return api.Act{Kind: api.ASync, Who: who}
	case what < 40:
		return api.Act{Kind: api.ATick}
	case what < 41:
		return api.Act{Kind: api.ACrash, Who: who, N: dice.Intn(w.Node(who).Loose() + 1)}
	case what < 42:
		return api.Act{Kind: api.ATrim, Who: who}
	case what < 43:
		return api.Act{Kind: api.AWatch, Who: who, Span: sp([]string{"", "k2"}[dice.Intn(2)], []string{"", "k4"}[dice.Intn(2)])}
	case what < 46:
		kind := []int{api.AMove, api.AMove, api.ASplit, api.ASplit, api.AJoin, api.AAbort, api.ACancel}[dice.Intn(7)]
		return api.Act{Kind: kind, Who: who, Key: key, N: dice.Intn(3)}
	case what < 53:
		return api.Act{Kind: api.AAsk, Who: who, Op: anOp(dice, w.Now())}
	default:
		return api.Act{Kind: api.APoll, Who: who, N: dice.Intn(3), M: dice.Intn(10)}
	}
}

// holds: all of it, and twice, as it is told by what there is alone. How many facts there are.
func holds(t *testing.T, name string, w *world.World) int {
	t.Helper()
	l, ok := audit.Facts(w)
	if !ok || !audit.Linear(w) || !audit.Feeds(w) || !audit.Owners(w) || !audit.Kept(w) {
		t.Fatalf("P27.4: %s: Facts %v, Linear %v, Feeds %v, Owners %v, Kept %v:\n%s", name, ok, audit.Linear(w), audit.Feeds(w), audit.Owners(w), audit.Kept(w), state(w))
	}
	if again, ok := audit.Facts(w); !ok || !slices.Equal(again, l) {
		t.Fatalf("P27.4: %s: %+v, and then %+v, %v", name, l, again, ok)
	}
	return len(l)
}

// P27.4: whatever the network does, and whoever crashes, all holds at each moment; and that it is looked at changes nothing.
func TestRowsHold(t *testing.T) {
	facts, parts, told := 0, 0, 0
	for seed := range 25 {
		dice := rand.New(rand.NewSource(int64(seed)))
		w, alone := world.New(), world.New()
		for i := range 1200 {
			a := anAct(dice, w)
			w.Do(a)
			alone.Do(a)
			if dice.Intn(20) == 0 {
				rounds := dice.Intn(4)
				w.Calm(rounds)
				alone.Calm(rounds)
			}
			if i%4 == 0 {
				holds(t, fmt.Sprintf("seed %d, step %d: %+v", seed, i, a), w)
			}
			parts = max(parts, len(w.Mover().Plan()))
		}
		if state(w) != state(alone) {
			t.Fatalf("P27.4: seed %d: the world was changed", seed)
		}
		w.Calm(60)
		facts += holds(t, fmt.Sprintf("seed %d, calm", seed), w)
		for who := range api.MaxSessions {
			told += len(w.Session(who).Told())
		}
	}
	if facts < 600 || parts < 5 || told < 2500 {
		t.Errorf("P27.4: only %d facts, %d places, %d were told: that shows nothing", facts, parts, told)
	}
}

// P27.4: who loses what was answered, or has a shard that went, is found out.
func TestRowsBreak(t *testing.T) {
	for seed := range 10 {
		dice := rand.New(rand.NewSource(int64(seed)))
		w := world.New()
		for range 600 {
			w.Do(anAct(dice, w))
		}
		w.Calm(60)
		holds(t, fmt.Sprint("seed ", seed), w)
		f := &fake{t, w, 1000}
		p := w.Mover().Plan()[0]
		l := w.Node(p.Node).Hold().Shards()
		f.add((p.Node+1)%3, l[0])
		f.isOwners("a shard is there twice", false)
		f.hold((p.Node + 1) % 3)
		f.hold(p.Node)
		f.isOwners("a node has nothing", false)
		for i := range api.MaxNodes {
			f.hold(i)
		}
		f.isKept("no node has anything", false)
	}
}
