package script_test

import (
	"fmt"
	"slices"
	"strings"
	"testing"

	"estuary/api"
	"estuary/fault"
	"estuary/script"
	"estuary/world"
)

var (
	longKey   = strings.Repeat("k", api.MaxKey)
	longValue = strings.Repeat("v", api.MaxValue)
)

// talk: a script, to which lines are said, to hold a promise.
type talk struct {
	t *testing.T
	*script.Script
	promise string
}

func newTalk(t *testing.T, promise string) *talk { return &talk{t, script.New(), promise} }

// told: what a line is answered, one behind the other.
func (k *talk) told(line string) string {
	k.t.Helper()
	l, err := k.Do(line)
	if err != nil {
		k.t.Fatalf("%s: %q is no line: %v", k.promise, line, err)
	}
	return strings.Join(l, "; ")
}

// says: lines, a blank and an arrow behind each one, and then what it is answered; of ok no more is written.
func (k *talk) says(lines ...string) {
	k.t.Helper()
	for i, l := range lines {
		line, want, there := strings.Cut(l, " ->")
		want = strings.TrimPrefix(want, " ")
		if !there {
			want = "ok"
		}
		if got := k.told(line); got != want {
			k.t.Fatalf("%s: line %d, %q: %q, want %q", k.promise, i, line, got, want)
		}
	}
}

// state: all that can be told of a world.
func state(w *world.World) string {
	var b strings.Builder
	for i := range api.MaxNodes {
		fmt.Fprintf(&b, "node %d: %+v, loose %d, waits %d\n", i, w.Node(i).Hold().Base(), w.Node(i).Loose(), w.Node(i).Waits())
	}
	fmt.Fprintf(&b, "now %d, mover: %+v, %+v, under way: %+v\n", w.Now(), w.Mover().Plan(), w.Mover().Job(), w.Bag().All())
	for i := range api.MaxSessions {
		s := w.Session(i)
		fmt.Fprintf(&b, "session %d: %v, %+v, %+v\n", i, s.Busy(), s.Calls(), s.Told())
		for n := range s.Watches() {
			x, ok := s.Get(n)
			fmt.Fprintf(&b, "\twatch %+v, %v\n", x, ok)
		}
	}
	return b.String()
}

// P28.1: the chapter's example, and what else a new one says.
func TestNew(t *testing.T) {
	newTalk(t, "P28.1").says("check -> yes", "bag -> 0", "plan -> - - 1 1 0", "last 0 -> none", "last 2 -> none", "told 0 0 -> error 23", "state 0 0 -> error 23")
	if s := script.New(); state(s.World()) != state(world.New()) {
		t.Errorf("P28.1: new: %s", state(s.World()))
	}
	a, b := newTalk(t, "P28.1"), newTalk(t, "P28.1")
	a.says("put 0 k v", "bag -> 1")
	b.says("bag -> 0")
	if a.World() != a.World() || a.World() == b.World() {
		t.Error("P28.1: each one has its own World, and one alone")
	}
}

// P28.1: all calls take all arguments: a Script that New didn't make is as a new one.
func TestNoNew(t *testing.T) {
	for _, line := range []string{"check", "bag", "plan", "tick", "last 0", "told 0 0", "watch 0 - -", "calm 2", "no line"} {
		var s script.Script
		got, err := s.Do(line)
		want, wantErr := script.New().Do(line)
		if !slices.Equal(got, want) || fault.Code(err) != fault.Code(wantErr) {
			t.Errorf("P28.1: %q: %q, %v, want %q, %v", line, got, err, want, wantErr)
		}
	}
	var s script.Script
	if s.World() == nil || s.World() != s.World() {
		t.Error("P28.1: no World")
	}
}

// P28.1: a request from its asking to its answer.
func TestAsk(t *testing.T) {
	k := newTalk(t, "P28.1")
	k.says("put 0 reed tall", "last 0 -> waits", "bag -> 1",
		"put 0 reed tall -> error 20", "get 0 - -> error 20", "last 0 -> waits", "last 1 -> none",
		"deliver 0", "deliver 0", "bag -> 1", "deliver 0", "bag -> 0", "last 0 -> waits",
		"sync 0", "bag -> 1", "last 0 -> waits", "deliver 0", "last 0 -> 0 1 -", "check -> yes")
	k.says("get 0 reed", "calm 2", "last 0 -> 0 1 tall",
		"get 1 reed", "calm 3", "last 1 -> waits", "calm 1", "last 1 -> 0 1 tall",
		"put 1 reed -", "calm 2", "last 1 -> 0 2 -", "get 0 reed", "calm 2", "last 0 -> 0 2 -",
		"cas 0 reed 1 low -> ok", "calm 2", "last 0 -> 15 2 -",
		"cas 0 reed 2 low -> ok", "calm 2", "last 0 -> 0 3 -", "get 0 reed", "calm 2", "last 0 -> 0 3 low",
		"cas 0 shore 0 - -> ok", "calm 2", "last 0 -> 0 1 -",
		"range 0 a z", "calm 2", "last 0 -> 0 0 -; reed 3 low; shore 1 -",
		"range 0 s -", "calm 2", "last 0 -> 0 0 -; shore 1 -",
		"range 0 a b", "calm 2", "last 0 -> 0 0 -",
		"range 0 a reed", "calm 2", "last 0 -> 0 0 -",
		"range 0 reed shore", "calm 2", "last 0 -> 0 0 -; reed 3 low",
		"del 0 reed", "calm 2", "last 0 -> 0 4 -",
		"del 0 reed", "calm 2", "last 0 -> 14 4 -",
		"get 0 reed", "calm 2", "last 0 -> 14 4 -",
		"get 0 tide", "calm 2", "last 0 -> 14 0 -",
		"range 0 a -", "calm 2", "last 0 -> 0 0 -; shore 1 -",
		"compact 0 reed 2", "calm 2", "last 0 -> 0 3 -",
		"compact 0 reed 0", "calm 2", "last 0 -> 0 2 -",
		"compact 0 reed 24", "calm 2", "last 0 -> 0 0 -", "check -> yes")
	k.says("get 2 reed", "calm 0", "last 2 -> waits", "lose 0", "bag -> 0")
	for range api.MaxRound * api.MaxTries {
		k.says("last 2 -> waits", "tick")
		for k.World().Bag().Len() > 0 {
			k.says("lose 0")
		}
	}
	k.says("last 2 -> 21 0 -", "last 1 -> 0 2 -", "check -> yes")
}

// P28.1: Keys and Values, `-` deletes; put in order of Key.
func TestBatch(t *testing.T) {
	k := newTalk(t, "P28.1")
	k.says("batch 0 m 1 c 2 x 3 a 4", "calm 4", "last 0 -> 0 4 -",
		"range 0 a -", "calm 2", "last 0 -> 0 0 -; a 1 4; c 1 2; m 1 1; x 1 3",
		"batch 0 x - m 5 c -", "calm 2", "last 0 -> 0 3 -",
		"range 0 a -", "calm 2", "last 0 -> 0 0 -; a 1 4; m 2 5",
		"get 0 c", "calm 2", "last 0 -> 14 2 -",
		"batch 0 q -", "calm 2", "last 0 -> 0 0 -",
		"batch 0 m 0", "calm 2", "last 0 -> 0 1 -",
		"batch 0 a 1 m "+longValue+"v", "calm 2", "last 0 -> 13 0 -", "get 0 a", "calm 2", "last 0 -> 0 1 4",
		"batch 0 a 1 b 2 c 3 d 4 e 5 -> error 10", "batch 0 e 1 d 2 c 3 b 4 a 5 -> error 10",
		"batch 0 a 1 a 1 -> error 10", "batch 0 b 1 a 1 b 2 -> error 10", "batch 0 a - a - -> error 10",
		"batch 0 - 1 -> error 10", "batch 0 a 1 - - -> error 10", "batch 0 "+longKey+"k 1 -> error 10",
		"batch 3 a 1 -> error 23", "last 0 -> 0 1 4", "check -> yes")
	got := k.World().Session(0).Calls()[0].Op
	if want := "{6    0 [{a 4 false} {c 2 false} {m 1 false} {x 3 false}]}"; fmt.Sprint(got) != want {
		t.Errorf("P28.1: %v, want %s", got, want)
	}
}

// P28.1: watches, and what they are told.
func TestWatch(t *testing.T) {
	k := newTalk(t, "P28.1")
	k.says("watch 1 - - -> ok 0", "watch 1 b c -> ok 1", "watch 0 - m -> ok 0", "watch 1 c - -> ok 2", "watch 1 - - -> error 19",
		"watch 0 c b -> error 10", "watch 0 b b -> error 10", "watch 0 - "+longKey+"k -> error 10", "watch 3 - - -> error 23",
		"state 1 0 -> on", "state 1 2 -> on", "state 0 1 -> error 23", "told 1 2 ->", "told 0 1 -> error 23", "told 3 0 -> error 23", "state 3 0 -> error 23", "last 3 -> error 23", "last 999999999 -> error 23", "told 0 999999999 -> error 23",
		"bag -> 0", "poll 1 0 8", "bag -> 1", "poll 0 1 8 -> error 23", "poll 3 0 8 -> error 23", "cancel 0 1 -> error 23", "cancel 3 0 -> error 23")
	for _, line := range []string{"put 0 b x", "put 0 c -", "del 0 b", "batch 0 b y c - a z"} {
		k.says(line, "calm 5")
	}
	k.says("told 1 0 -> b 1 x; c 1 -; b 2 gone; a 1 z; b 3 y; c 2 gone", "told 1 1 -> b 1 x; b 2 gone; b 3 y", "told 1 2 -> c 1 -; c 2 gone",
		"told 0 0 -> b 1 x; c 1 -; b 2 gone; a 1 z; b 3 y; c 2 gone", "check -> yes",
		"cancel 1 1", "state 1 1 -> cancelled", "state 1 0 -> on", "cancel 1 1 -> error 24", "poll 1 1 8 -> error 24",
		"put 2 b w", "calm 5", "told 1 1 -> b 1 x; b 2 gone; b 3 y", "told 0 0 -> b 1 x; c 1 -; b 2 gone; a 1 z; b 3 y; c 2 gone; b 4 w")
	k.says("compact 2 b 0", "calm 5", "watch 2 a b -> ok 0", "state 2 0 -> on", "calm 5", "state 2 0 -> compacted", "told 2 0 ->", "state 1 0 -> on", "poll 2 0 8 -> error 24", "cancel 2 0 -> error 24", "state 2 0 -> compacted", "check -> yes")
}

// P28.1: how many events one poll may tell.
func TestCredit(t *testing.T) {
	k := newTalk(t, "P28.1")
	for _, key := range strings.Split("a b c d e f g h i j", " ") {
		k.says("put 0 "+key+" v", "calm 4")
	}
	k.says("watch 1 - - -> ok 0", "watch 1 - - -> ok 1", "poll 1 1 3", "deliver 0", "deliver 0", "bag -> 0",
		"poll 1 1 3", "deliver 0", "bag -> 0", "sync 0", "deliver 0", "told 1 1 -> a 1 v; b 1 v; c 1 v", "told 1 0 ->",
		"poll 1 1 0", "deliver 0", "sync 0", "deliver 0", "told 1 1 -> a 1 v; b 1 v; c 1 v",
		"poll 1 0 999999999", "deliver 0", "sync 0", "deliver 0", "told 1 0 -> a 1 v; b 1 v; c 1 v; d 1 v; e 1 v; f 1 v; g 1 v; h 1 v", "told 1 1 -> a 1 v; b 1 v; c 1 v")
}

// P28.1: letters, time, nodes.
func TestNetwork(t *testing.T) {
	k := newTalk(t, "P28.1")
	k.says("deliver 0 -> error 14", "lose 0 -> error 14", "twice 0 -> error 14", "put 0 k v", "deliver 1 -> error 14", "lose 1 -> error 14", "twice 1 -> error 14",
		"twice 0", "twice 1", "bag -> 3", "lose 2", "bag -> 2", "deliver 1", "bag -> 2", "lose 0", "bag -> 1", "deliver 0", "bag -> 1",
		"deliver 0", "bag -> 0", "sync 1", "sync 2", "bag -> 0", "crash 0 5", "sync 0", "bag -> 0", "last 0 -> waits")
	for range api.MaxRound {
		k.says("bag -> 0", "tick")
	}
	k.says("bag -> 2", "deliver 0", "crash 1 9", "crash 0 999999999", "sync 0", "bag -> 1", "last 0 -> waits", "get 1 k", "calm 4", "last 1 -> 0 1 v", "last 0 -> 0 1 -", "trim 0", "trim 1", "trim 2",
		"sync 3 -> error 23", "crash 3 0 -> error 23", "trim 3 -> error 23", "sync 999999999 -> error 23", "check -> yes")
}

// P28.1: jobs, and the plan.
func TestPlan(t *testing.T) {
	k := newTalk(t, "P28.1")
	k.says("abort -> error 14", "move k 0 -> error 14", "move k 3 -> error 23", "move k 999999999 -> error 23", "join k -> error 14", "split - -> error 14", "move - 1 -> error 14", "join - -> error 14", "move "+longKey+"k 1 -> error 14",
		"split m", "plan -> - - 1 1 0", "split m -> error 20", "move k 1 -> error 20", "join k -> error 20", "abort -> error 20",
		"calm 3", "plan -> - m 2 1 0; m - 3 1 0", "split m -> error 22", "move z 2", "plan -> - m 2 1 0; m - 3 1 0", "calm 20", "plan -> - m 2 1 0; m - 3 2 2",
		"join a -> error 22", "join m -> error 14", "split t", "calm 3", "plan -> - m 2 1 0; m t 4 1 2; t - 5 1 2",
		"move a 1", "abort", "abort -> error 20", "calm 3", "plan -> - m 2 2 0; m t 4 1 2; t - 5 1 2", "join a -> error 22",
		"join m", "calm 3", "plan -> - m 2 2 0; m - 6 1 2", "move m 0", "calm 20", "join a", "calm 3", "plan -> - - 7 1 0", "check -> yes")
	k.says("put 0 a v", "put 1 z v", "calm 4")
	for i := range 7 {
		k.says(fmt.Sprint("split ", i+1), "calm 3")
	}
	k.says("split z -> error 19", "check -> yes", "last 0 -> 0 1 -", "last 1 -> 0 1 -", "range 0 a z", "calm 6", "last 0 -> 0 0 -; a 1 v", "range 0 6 -", "calm 6", "last 0 -> 16 0 -")
}

// P28.1: calm is held to 1000 rounds, and none is no act.
func TestCalm(t *testing.T) {
	k := newTalk(t, "P28.1")
	for _, c := range []struct{ rounds, now int }{{0, 0}, {1, 4}, {3, 16}, {1000, 4016}, {1001, 8016}, {999999999, 12016}} {
		if k.says(fmt.Sprint("calm ", c.rounds)); k.World().Now() != c.now {
			t.Errorf("P28.1: calm %d: now %d, want %d", c.rounds, k.World().Now(), c.now)
		}
	}
}

// P28.1: no line that looks changes anything; each act is one step, if it is refused, too.
func TestSteps(t *testing.T) {
	k := newTalk(t, "P28.1")
	k.says("watch 0 - - -> ok 0", "put 1 k v", "calm 5", "put 1 k w", "split m")
	was := state(k.World())
	for _, line := range []string{"last 0", "last 1", "last 3", "told 0 0", "told 0 1", "state 0 0", "state 3 0", "plan", "bag", "check", "calm 0"} {
		if k.told(line); state(k.World()) != was {
			t.Fatalf("P28.1: %q changed something", line)
		}
	}
	for _, line := range []string{"tick", "abort", "sync 3", "deliver 300", "put 1 k v", "get 7 k", "watch 0 b a", "lose 0"} {
		now := k.World().Now()
		if k.told(line); k.World().Now() != now+1 {
			t.Errorf("P28.1: %q: now %d, and then %d", line, now, k.World().Now())
		}
	}
}

// P28.1: check is no, if but one of audit's doesn't hold.
func TestCheck(t *testing.T) {
	made := func() (*talk, func(node int, l ...api.Shard)) {
		k := newTalk(t, "P28.1")
		k.says("watch 1 - - -> ok 0", "put 0 k v", "calm 5", "check -> yes")
		return k, func(node int, l ...api.Shard) {
			t.Helper()
			if _, err := k.World().Node(node).Hold().Do(api.Record{Kind: api.RBase, Shards: l}); err != nil {
				t.Fatal(err)
			}
		}
	}
	k, base := made()
	one := k.World().Node(0).Hold().Shards()[0]
	base(0)
	k.says("check -> no") // Owners, Kept
	base(0, one)
	k.says("check -> yes")
	none := one
	none.Cells, none.Events = nil, nil
	base(0, none)
	k.says("check -> no") // Kept alone
	base(0, one)
	base(1, one)
	k.says("check -> no") // Owners alone
	one.Frozen = true
	base(1, one)
	k.says("check -> yes")

	other := one
	other.Cells = []api.Cell{{Key: "k", Value: "w", Version: 1, Floor: 1}}
	other.Events = nil
	base(1, other)
	k.says("check -> no") // Linear alone
	base(1)
	k.says("check -> yes")
	k, _ = made()
	k.says("calm 3")
	told := api.Letter{Kind: api.LAnswer, To: api.Sessions + 2, N: [5]int{1}, Answer: api.Answer{Version: 1, Value: "v"}}
	k.says("get 2 k", "check -> yes")
	k.World().Session(2).Take(told, k.World().Now())
	k.says("last 2 -> 0 1 v", "check -> yes")
	told.N[0], told.Answer.Value = 2, "w"
	k.says("get 2 k")
	k.World().Session(2).Take(told, k.World().Now())
	k.says("last 2 -> 0 1 w", "check -> no")
}

// P28.1: what is told is new memory.
func TestMemory(t *testing.T) {
	k := newTalk(t, "P28.1")
	k.says("watch 0 - - -> ok 0", "put 1 k v", "calm 5", "range 1 a -", "calm 2", "split m", "calm 3")
	for _, line := range []string{"last 1", "told 0 0", "state 0 0", "plan", "bag", "check", "tick", "last 9"} {
		was := k.told(line)
		l, _ := k.Do(line)
		for i := range l {
			l[i] = "spoilt"
		}
		for _, more := range l[len(l):cap(l)] {
			_ = append(l, more+"spoilt")
		}
		if got := k.told(line); got != was {
			t.Errorf("P28.1: %q: %q, and then %q", line, was, got)
		}
	}
}
