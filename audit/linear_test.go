package audit_test

import (
	"fmt"
	"math"
	"math/rand"
	"slices"
	"strings"
	"testing"

	"estuary/api"
	"estuary/audit"
)

// said: a call, when it was asked and answered, and what.
type said struct {
	op              api.Op
	asked, answered int
	code            api.Errno
	version         int
}

func (x said) answer() api.Answer {
	a := api.Answer{Code: int(x.code), Version: x.version}
	if x.op.Kind == api.OGet && x.code == 0 {
		a.Value = "v"
	}
	return a
}

// isLinear: whoever of the sessions asked, in whatever order.
func isLinear(t *testing.T, name string, want bool, l ...said) {
	t.Helper()
	for turn := range 2 * api.MaxSessions {
		f := newFake(t)
		for i, x := range l {
			f.call((i+turn)%api.MaxSessions, x.op, x.asked, x.answered, x.answer())
		}
		if _, ok := audit.Facts(f.World); !ok {
			t.Fatalf("P27.2: %s: no Facts", name)
		}
		if got := audit.Linear(f.World); got != want {
			t.Errorf("P27.2: %s: %v", name, got)
		}
		slices.Reverse(l)
	}
}

const none, clash = api.ErrNone, api.ErrClash

// looking: calls that change nothing, and tell of key k that it has this Version.
func looking(version, asked, answered int) []said {
	return []said{{get("k"), asked, answered, 0, version}, {get("k"), asked, answered, none, version}, {get("k"), asked, answered, clash, version},
		{put("k", "w"), asked, answered, none, version}, {put("k", "w"), asked, answered, clash, version}, {del("k"), asked, answered, none, version},
		{del("k"), asked, answered, clash, version}, {cas("k", "w", 77), asked, answered, clash, version}, {cas("k", "w", 77), asked, answered, none, version}}
}

// changing: calls that changed key k to this Version.
func changing(version, asked, answered int) []said {
	return []said{{put("k", "v"), asked, answered, 0, version}, {cas("k", "v", max(version-1, 0)), asked, answered, 0, version}}
}

// P27.2: one call alone is in order, unless it is an OCas that is amiss.
func TestOneCall(t *testing.T) {
	for _, version := range []int{math.MinInt, -1, 0, 1, 2, api.MaxRev, math.MaxInt} {
		for _, x := range looking(version, 1, 2) {
			isLinear(t, fmt.Sprint(x), true, x)
		}
		isLinear(t, fmt.Sprint("a put ", version), true, changing(version, 1, 2)[0])
		isLinear(t, fmt.Sprint("a del ", version), true, said{del("k"), 1, 2, 0, version})
		isLinear(t, fmt.Sprint("a put that went back ", version), true, changing(version, 9, 2)[0])
		for _, own := range []int{0, 1, 2, api.MaxRev} {
			isLinear(t, fmt.Sprint("cas ", own, version), version == own+1, said{cas("k", "v", own), 1, 2, 0, version})
			isLinear(t, fmt.Sprint("cas clash ", own, version), version != own, said{cas("k", "v", own), 1, 2, clash, version})
			isLinear(t, fmt.Sprint("cas none ", own, version), true, said{cas("k", "v", own), 1, 2, none, version})
			for _, code := range []api.Errno{api.ErrSpent, api.ErrLarge, api.ErrForm, api.ErrGiven, api.ErrFull} {
				isLinear(t, fmt.Sprint("cas ", code, own, version), true, said{cas("k", "v", own), 1, 2, code, version})
			}
		}
	}
}

// P27.2: two calls, of which the one was answered ahead of the other's asking, or wasn't.
func TestTwoCalls(t *testing.T) {
	for _, v := range []int{1, 2, 3, 4} {
		for _, later := range []int{2, 3, 4, 5} {
			ahead := later > 3
			for _, first := range slices.Concat(looking(v, 1, 3), changing(v, 1, 3)) {
				for _, x := range looking(2, later, later+2) {
					isLinear(t, fmt.Sprint(first, ", then ", x), !ahead || v <= 2, first, x)
				}
			}
			for _, first := range looking(v, 1, 3) {
				for _, x := range changing(2, later, later+2) {
					isLinear(t, fmt.Sprint(first, ", then ", x), !ahead || v < 2, first, x)
				}
			}
			for _, first := range changing(v, 1, 3) {
				for _, x := range changing(2, later, later+2) {
					isLinear(t, fmt.Sprint(first, ", then ", x), v != 2 && (!ahead || v < 2), first, x)
				}
			}
			x := said{del("k"), later, later + 2, 0, 2}
			if v != 2 {
				isLinear(t, fmt.Sprint("a del behind ", v), !ahead || v < 2, changing(v, 1, 3)[0], x)
			}
			x = said{del("k"), 1, 3, 0, 2}
			if v != 2 {
				isLinear(t, fmt.Sprint("a del ahead of ", v), !ahead || v > 2, x, changing(v, later, later+2)[0])
			}
			isLinear(t, fmt.Sprint("a del ahead of a look at ", v), !ahead || v >= 2, x, looking(v, later, later+2)[1])
			isLinear(t, fmt.Sprint("dels of 2 and ", v), v != 2 && (!ahead || v > 2), x, said{del("k"), later, later + 2, 0, v})
		}
	}
}

// P27.2: what isn't held against anything: other keys, other kinds, other Codes, what waits.
func TestNotHeld(t *testing.T) {
	last := said{put("k", "v"), 5, 6, 0, 9}
	for _, key := range []string{"b", "kk", "K"} {
		isLinear(t, "another key "+key, true, last, said{put(key, "v"), 7, 8, 0, 1}, said{get(key), 9, 10, 0, 1})
	}
	for _, code := range []api.Errno{api.ErrSpent, api.ErrLarge, api.ErrForm, api.ErrSplit, api.ErrGiven, api.ErrFull, 1, -1} {
		for _, o := range []api.Op{get("k"), put("k", "v"), del("k"), cas("k", "v", 4)} {
			isLinear(t, fmt.Sprint(o, " of ", code), true, last, said{o, 7, 8, code, 1}, said{o, 1, 2, code, 99})
		}
	}
	many := api.Op{Kind: api.OCompact, Key: "k", Version: 1}
	isLinear(t, "other kinds", true, last, said{many, 7, 8, 0, 1}, said{many, 1, 2, 0, 99}, said{batch("v", "k"), 7, 8, 0, 1}, said{batch("v", "k"), 1, 2, 0, 99}, said{between("k", ""), 7, 8, 0, 1}, said{between("k", ""), 1, 2, 0, 99})
	for _, o := range []api.Op{get("k"), put("k", "v"), del("k"), cas("k", "v", 4)} {
		f := newFake(t)
		f.call(0, last.op, 5, 6, last.answer())
		f.waits(1, o, 7)
		f.waits(2, o, 8)
		if !audit.Linear(f.World) {
			t.Errorf("P27.2: %+v waits", o)
		}
	}
}

// P27.2: it isn't the last one alone that is held against what comes later; nor is it one of each session.
func TestManyCalls(t *testing.T) {
	row := func(version int) (l []said) {
		for i := range 20 {
			l = append(l, said{put("k", "v"), 10 * i, 10*i + 5, 0, i + 1}, said{get("k"), 10*i + 6, 10*i + 9, 0, i + 1})
		}
		return append(l, said{get("k"), 47, 62, 0, version})
	}
	// at 47 version 5 was there, at 62 nobody can have seen more than version 7 (asked at 60)
	for version := 1; version < 20; version++ {
		isLinear(t, fmt.Sprint("a look at ", version), version >= 5 && version <= 7, row(version)...)
	}
}

// P27.2: Versions as great, and as small, as numbers may be.
func TestFarVersions(t *testing.T) {
	far := []int{math.MinInt, math.MinInt / 2, -1, 0, api.MaxRev, math.MaxInt/2 + 1, math.MaxInt}
	for i, first := range far {
		for k, later := range far {
			isLinear(t, fmt.Sprint("a look at ", first, ", then at ", later), i <= k, looking(first, 1, 2)[1], looking(later, 3, 4)[1])
			isLinear(t, fmt.Sprint("a look at ", first, ", then a put of ", later), i < k, looking(first, 1, 2)[1], changing(later, 3, 4)[0])
		}
	}
}

// P27.2: facts that are unlike, though all calls are in order.
func TestUnlikeFacts(t *testing.T) {
	f := newFake(t)
	f.call(0, put("k", "v"), 1, 2, api.Answer{Version: 1})
	f.call(1, get("k"), 3, 4, api.Answer{Version: 1, Value: "v"})
	f.hold(2, frozen(holding(ev("k1w"))))
	f.isNoFacts("a node has another one")
	f.hold(2)
	if !audit.Linear(f.World) {
		t.Error("P27.2: not Linear")
	}
}

// P27.2: of many calls, too, it is told soon.
func TestSoon(t *testing.T) {
	f := newFake(t)
	for i := 1; i <= 20000; i++ {
		f.Session(0).Ask(put("k", "v"), 2*i)
		f.Session(0).Take(api.Letter{Kind: api.LAnswer, To: api.Sessions, N: [5]int{i}, Answer: api.Answer{Version: i}}, 2*i+1)
	}
	if !audit.Linear(f.World) {
		t.Error("P27.2: not Linear")
	}
	f.call(1, get("k"), 50000, 50001, api.Answer{Version: 19999, Value: "v"})
	if audit.Linear(f.World) {
		t.Error("P27.2: Linear")
	}
}

// factsOf: the document's words once more, of calls.
func factsOf(all []api.Call) bool {
	facts := map[string]string{}
	for _, c := range all {
		tells, what := c.Answer.Code == 0, c.Op.Value
		switch c.Op.Kind {
		case api.OGet:
			what = c.Answer.Value
		case api.ODel:
			what = "gone"
		}
		if name := fmt.Sprint(c.Op.Key, c.Answer.Version); tells {
			if was, there := facts[name]; there && was != what {
				return false
			}
			facts[name] = what
		}
	}
	return true
}

func changed(c api.Call) bool { return c.Answer.Code == 0 && c.Op.Kind != api.OGet }

// linear: likewise, each call held against each other one.
func linear(all []api.Call) bool {
	for i, a := range all {
		if c := a.Answer.Code; c != 0 && c != int(none) && c != int(clash) {
			continue
		}
		if a.Op.Kind == api.OCas && (a.Answer.Code == 0 && a.Answer.Version != a.Op.Version+1 || a.Answer.Code == int(clash) && a.Answer.Version == a.Op.Version) {
			return false
		}
		for k, b := range all {
			if c := b.Answer.Code; i == k || a.Op.Key != b.Op.Key || c != 0 && c != int(none) && c != int(clash) {
				continue
			}
			if changed(a) && changed(b) && a.Answer.Version == b.Answer.Version {
				return false
			}
			if a.Answered < b.Asked && (b.Answer.Version < a.Answer.Version || changed(b) && b.Answer.Version == a.Answer.Version) {
				return false
			}
		}
	}
	return factsOf(all)
}

// P27.2: the document's words, of rows that are nearly in order, and of some in which the time goes back.
func TestLinearModel(t *testing.T) {
	var count [2][2]int
	for seed := range 20000 {
		dice := rand.New(rand.NewSource(int64(seed)))
		f := newFake(t)
		odd := dice.Intn(3) == 0
		for i := range 2 + dice.Intn(8) {
			x := said{asked: 2*i + dice.Intn(6), version: i + dice.Intn(3)}
			x.answered = x.asked + 1 + dice.Intn(5)
			if odd {
				x.answered -= dice.Intn(6)
			}
			key := strings.Repeat("k", 1+dice.Intn(5)/4)
			switch dice.Intn(8) {
			case 0, 1, 2:
				x.op = put(key, "v")
			case 3:
				x.op = cas(key, "v", max(0, x.version-1))
			case 4:
				x.op, x.code = cas(key, "v", i+dice.Intn(2)), clash
			case 5:
				x.op, x.code = del(key), []api.Errno{0, none, none, api.ErrSpent}[dice.Intn(4)]
			default:
				x.op, x.code = get(key), []api.Errno{0, 0, none}[dice.Intn(3)]
			}
			if x.answered == 0 {
				x.answered = -1
			}
			f.call(dice.Intn(3), x.op, x.asked, x.answered, x.answer())
		}
		var all []api.Call
		for who := range api.MaxSessions {
			all = append(all, f.Session(who).Calls()...)
		}
		want, kind := linear(all), 0
		if odd {
			kind = 1
		}
		if got := audit.Linear(f.World); got != want {
			t.Fatalf("P27.2: seed %d: %v: %+v", seed, got, all)
		}
		if want {
			count[kind][1]++
		} else {
			count[kind][0]++
		}
	}
	if slices.Min(slices.Concat(count[0][:], count[1][:])) < 500 {
		t.Errorf("P27.2: only %v: that shows nothing", count)
	}
}
