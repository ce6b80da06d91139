package script_test

import (
	"fmt"
	"strings"
	"testing"

	"estuary/api"
	"estuary/shard"
	"estuary/span"
)

// shards: of all nodes; frozen ones too, if they are wanted.
func (k *talk) shards(frozen bool) (all []api.Shard) {
	for i := range api.MaxNodes {
		for _, s := range k.World().Node(i).Hold().Shards() {
			if frozen || !s.Frozen {
				all = append(all, s)
			}
		}
	}
	return all
}

// owned: P40.4: no key has two shards that aren't frozen.
func (k *talk) owned(name string) {
	k.t.Helper()
	all := k.shards(false)
	for i, a := range all {
		for _, b := range all[:i] {
			if both, ok := span.Meet(a.Span, b.Span); ok {
				k.t.Fatalf("P40.4: %s: %+v has two owners:\n%+v\n%+v", name, both, a, b)
			}
		}
	}
}

// bound: P40.6: nothing is beyond its limit.
func (k *talk) bound(name string) {
	k.t.Helper()
	w := k.World()
	if letters, places := num(k.told("bag")), w.Mover().Plan(); letters > api.MaxLetters || len(places) < 1 || len(places) > api.MaxShards {
		k.t.Fatalf("P40.6: %s: %d letters, %d places", name, letters, len(places))
	}
	for i := range api.MaxNodes {
		if n := w.Node(i); n.Loose() > api.MaxDisk || len(n.Hold().Shards()) > api.MaxShards {
			k.t.Fatalf("P40.6: %s: node %d: %d bytes are loose, %d shards", name, i, n.Loose(), len(n.Hold().Shards()))
		}
	}
	for _, s := range k.shards(true) {
		if !shard.Is(s) || len(s.Events) > api.MaxHistory || len(s.Done) > api.MaxSessions {
			k.t.Fatalf("P40.6: %s: %+v", name, s)
		}
	}
}

// idle: no job, and no request waits.
func (k *talk) idle() bool {
	if k.World().Mover().Job().Phase != api.MIdle {
		return false
	}
	for c := range api.MaxSessions {
		if k.told(fmt.Sprint("last ", c)) == "waits" {
			return false
		}
	}
	return true
}

// ends: P40.5: where nothing is lost and all go on, all that was begun ends.
func (k *talk) ends(name string) {
	k.t.Helper()
	for range 300 {
		if k.idle() {
			k.told("calm 40") // each watch has polled what there is
			if !k.idle() || k.told("abort") != "error 14" || k.told("check") != "yes" {
				k.t.Fatalf("P40.5: %s: check %s\n%s", name, k.told("check"), state(k.World()))
			}
			return
		}
		k.told("calm 1")
	}
	k.t.Fatalf("P40.5: %s: it doesn't end:\n%s", name, state(k.World()))
}

// known: session c knows the plan, as it asked something that changes nothing.
func (k *talk) known(c int) {
	k.t.Helper()
	k.told(fmt.Sprintf("get %d nothing", c))
	k.told("calm 5")
	k.says(fmt.Sprintf("last %d -> 14 0 -", c))
}

// P40.1: a request that is doubled, is late, or is said again takes effect once.
func TestOnce(t *testing.T) {
	late := func() *talk { // session 0's put of v is done, and once more under way
		k := newTalk(t, "P40.1")
		k.known(0)
		k.known(1)
		k.says("put 0 k v", "bag -> 1", "twice 0", "deliver 0", "sync 0", "deliver 1", "last 0 -> 0 1 -", "bag -> 1")
		return k
	}
	for name, between := range map[string][]string{
		"at once":        nil,
		"asked again":    {"get 0 k"},
		"another put":    {"put 1 k w"},
		"one of its own": {"put 0 k w"},
		"a del":          {"del 0 k"},
		"a crash":        {"crash 0 0"},
		"a trim":         {"trim 0", "crash 0 0"},
		"a split":        {"split g"},
		"a move":         {"move k 1"},
		"there and back": {"move k 1", "wait", "move k 0"},
		"split, joined":  {"split g", "wait", "join a"},
		"cut, moved":     {"split g", "wait", "move k 2", "wait", "move k 0", "wait", "join a"},
		"aborted":        {"move k 1", "abort"},
	} {
		k := late()
		kept, err := k.World().Bag().Take(0)
		if err != nil || kept.Kind != api.LAsk {
			t.Fatal(kept, err)
		}
		for _, line := range append(between, "wait") {
			if line != "wait" {
				k.says(line)
				continue
			}
			for i := 0; i < 60; i++ {
				k.told("calm 1")
			}
		}
		before := k.cells()
		k.World().Bag().Put(kept)
		k.ends(name)
		if got := k.cells(); got != before {
			t.Errorf("P40.1: %s: what is late was done twice: %s, then %s", name, before, got)
		}
	}
}

// cells: what there is of key k, wherever it is.
func (k *talk) cells() string {
	var b strings.Builder
	for _, s := range k.shards(false) {
		for _, c := range s.Cells {
			fmt.Fprint(&b, c.Key, " ", c.Version, " ", c.Value, c.Del, "; ")
		}
	}
	return b.String()
}

// P40.1: what was done, though its answer is lost, is answered when it is said again, and not done again: be the node's log synced, or kept by a crash.
func TestSaidAgain(t *testing.T) {
	for name, lost := range map[string][]string{
		"an answer":   {"sync 0", "lose 0"},
		"by a crash":  {"crash 0 999"},
		"all of it":   {"crash 0 0"},
		"synced":      {"sync 0", "crash 0 0", "lose 0"},
		"what is cut": {"crash 0 20"},
		"moved away":  {"sync 0", "lose 0", "move k 2"},
		"split":       {"sync 0", "lose 0", "split k"},
	} {
		k := newTalk(t, "P40.1")
		k.known(0)
		k.says("put 0 k v", "deliver 0")
		k.says(lost...)
		k.ends(name)
		if got := k.told("last 0"); got != "0 1 -" || k.cells() != "k 1 vfalse; " {
			t.Errorf("P40.1: %s: %s: %s", name, got, k.cells())
		}
	}
}

// P40.1: of those that want to change one version one alone does, whatever comes first.
func TestRace(t *testing.T) {
	for first := range 3 {
		for crash := range 2 {
			k := newTalk(t, "P40.1")
			for c := range 3 {
				k.known(c)
			}
			k.says("cas 0 k 0 v0", "cas 1 k 0 v1", "cas 2 k 0 v2", "bag -> 3", fmt.Sprint("deliver ", first), "deliver 0", "deliver 0")
			if crash == 1 {
				k.says("crash 0 0")
			}
			k.ends("a race")
			won := 0
			for c := range 3 {
				switch got := k.told(fmt.Sprint("last ", c)); {
				case got == "0 1 -":
					won++
					k.says(fmt.Sprintf("get %d k", c), "calm 5", fmt.Sprintf("last %d -> 0 1 v%d", c, c))
					if crash == 0 && c != first {
						t.Errorf("P40.1: %d won, not %d", c, first)
					}
				case got != "15 1 -":
					t.Errorf("P40.1: session %d: %s", c, got)
				}
			}
			if won != 1 {
				t.Errorf("P40.1: %d won", won)
			}
		}
	}
}

// P40.1: who asks behind an answer sees what was answered, also at a node that had the key before, or has an old plan.
func TestBehind(t *testing.T) {
	k := newTalk(t, "P40.1")
	for c := range 3 {
		k.known(c)
	}
	k.says("put 0 k v", "calm 3", "last 0 -> 0 1 -", "move k 1")
	k.ends("a move")
	k.says("put 0 k w", "calm 8", "last 0 -> 0 2 -", "get 1 k", "bag -> 1", "deliver 0", "sync 0", "deliver 0", "last 1 -> waits", "calm 6", "last 1 -> 0 2 w", "range 2 a z", "calm 6", "last 2 -> 0 0 -; k 2 w")
	k.says("split m", "calm 3", "move k 2")
	k.ends("a move back")
	k.says("put 0 k x", "calm 6", "last 0 -> 0 3 -", "get 1 k", "calm 6", "last 1 -> 0 3 x", "range 2 a z", "calm 6", "last 2 -> 16 0 -", "range 2 a m", "calm 6", "last 2 -> 0 0 -; k 3 x", "check -> yes")
}

// P40.2: one version behind the other, from behind the token, whatever is done with the shards and the letters.
func TestFeeds(t *testing.T) {
	k := newTalk(t, "P40.2")
	for c := range 3 {
		k.known(c)
	}
	k.says("watch 1 - - -> ok 0", "watch 2 k l -> ok 0")
	jobs := []string{"split k", "move k 1", "split t", "move a 2", "move k 2", "join a", "move a 0", "move k 0", "join a", "move k 1"}
	for i, job := range jobs {
		k.says(fmt.Sprintf("put 0 k v%d", i), "calm 6", fmt.Sprintf("last 0 -> 0 %d -", i+1))
		k.told(job)
		k.says("poll 1 0 8", "poll 2 0 1", "twice 0", "tick", "sync 0", "sync 1", "sync 2")
		for range 4 {
			if letters := num(k.told("bag")); letters > 0 {
				k.says(fmt.Sprint("twice ", letters-1), fmt.Sprint("deliver ", letters), fmt.Sprint("twice ", letters/2), fmt.Sprint("lose ", letters/2), fmt.Sprint("deliver ", letters-1))
			}
		}
		k.ends(job)
	}
	var want []string
	for i := range jobs {
		want = append(want, fmt.Sprintf("k %d v%d", i+1, i))
	}
	all := strings.Join(want, "; ")
	k.says("told 1 0 -> "+all, "told 2 0 -> "+all, "state 1 0 -> on", "state 2 0 -> on")
}

// P40.2: a feed that comes late tells what wasn't told yet, and of what comes too early nothing.
func TestLateFeeds(t *testing.T) {
	k := newTalk(t, "P40.2")
	k.known(0)
	k.known(1)
	k.says("watch 1 - - -> ok 0")
	for i, value := range []string{"a", "b", "c"} { // of each poll the feed stays under way
		k.says("put 0 k "+value, "deliver "+fmt.Sprint(i), "sync 0", "deliver "+fmt.Sprint(i), fmt.Sprintf("last 0 -> 0 %d -", i+1),
			"poll 1 0 1", "deliver "+fmt.Sprint(i), "sync 0", fmt.Sprint("bag -> ", i+1), "told 1 0 ->")
	}
	k.says("twice 0", "twice 1", "deliver 2", "told 1 0 -> k 1 a", "deliver 0", "deliver 0", "deliver 0", "deliver 0", "bag -> 0", "told 1 0 -> k 1 a")
	k.says("poll 1 0 1", "poll 1 0 8", "deliver 0", "deliver 0", "sync 0", "bag -> 2", "deliver 1", "told 1 0 -> k 1 a; k 2 b; k 3 c", "deliver 0", "told 1 0 -> k 1 a; k 2 b; k 3 c")

	k.says("put 0 k d", "deliver 0", "poll 1 0 8", "deliver 0", "sync 0", "bag -> 2", "put 2 k e", "calm 5", "compact 2 k 0", "calm 3", "state 1 0 -> on")
	k.says("told 1 0 -> k 1 a; k 2 b; k 3 c; k 4 d; k 5 e")
	early := api.Letter{Kind: api.LFeed, From: 0, To: api.Sessions + 1, Events: []api.Event{{Key: "k", Version: 7, Value: "g"}}}
	k.World().Bag().Put(early)
	k.says("calm 1", "told 1 0 -> k 1 a; k 2 b; k 3 c; k 4 d; k 5 e", "state 1 0 -> on")
}

// P40.3: behind a crash that keeps any number of bytes a batch is there wholly, or not at all; and if it was answered it is there.
func TestCrashes(t *testing.T) {
	none, whole, last := 0, 0, 0
	for keep := 0; keep <= last+2; keep++ {
		k := newTalk(t, "P40.3")
		k.known(0)
		k.says("put 0 a before", "calm 3", "last 0 -> 0 1 -", "batch 0 a v b v c v d v", "deliver 0")
		last = k.World().Node(0).Loose()
		k.says(fmt.Sprint("crash 0 ", keep))
		switch got := k.cells(); got {
		case "a 1 beforefalse; ":
			none++
		case "a 2 vfalse; b 1 vfalse; c 1 vfalse; d 1 vfalse; ":
			whole++
		default:
			t.Fatalf("P40.3: %d bytes were kept: %s", keep, got)
		}
		if k.says("last 0 -> waits"); keep%5 == 0 {
			k.ends("a crash")
			k.says("last 0 -> 0 4 -")
		}
	}
	if none != last || whole != 3 || last < 40 {
		t.Errorf("P40.3: of %d bytes: %d times not at all, %d times wholly", last, none, whole)
	}
	for keep := range 3 {
		for _, more := range []string{"trim 0", "sync 0", "tick", "put 1 b w"} {
			k := newTalk(t, "P40.3")
			k.known(0)
			k.known(1)
			k.says("put 0 a v", "deliver 0", "sync 0", "deliver 0", "last 0 -> 0 1 -", more, fmt.Sprint("crash 0 ", keep), "check -> yes", "crash 0 0", "get 0 a", "calm 3", "last 0 -> 0 1 v")
		}
	}
}

// P40.3: nothing is told ahead of being synced: neither an answer, nor a feed, nor that a shard is frozen, there or gone.
func TestUnsynced(t *testing.T) {
	k := newTalk(t, "P40.3")
	k.known(0)
	k.known(1)
	k.says("watch 1 - - -> ok 0", "put 0 k v", "deliver 0", "poll 1 0 8", "deliver 0", "get 1 k", "deliver 0", "bag -> 0", "crash 0 0", "sync 0", "bag -> 0", "told 1 0 ->", "last 0 -> waits", "last 1 -> waits", "check -> yes")
	k.ends("nothing was told")
	k.says("last 0 -> 0 1 -", "told 1 0 -> k 1 v")
	k.says("move k 1", "deliver 0", "bag -> 0", "crash 0 0", "bag -> 0", "plan -> - - 1 1 0")
	if s, ok := k.World().Node(0).Hold().Get(1); !ok || s.Frozen {
		t.Errorf("P40.3: it is frozen by what was lost: %+v", s)
	}
	k.ends("a move")
	k.says("plan -> - - 1 2 1", "get 0 k", "calm 8", "last 0 -> 0 1 v")
}

// eager: what is done in one step: all nodes sync, then the first letter comes, or if there is none there is a tick.
func (k *talk) eager() {
	for i := range api.MaxNodes {
		k.told(fmt.Sprint("sync ", i))
	}
	if k.told("bag") == "0" {
		k.told("tick")
		return
	}
	k.told("deliver 0")
}

// P40.4: whoever crashes at whatever step of a job, keeping all, half or nothing, no key has two owners at any moment; the job ends, and nothing is lost.
func TestOwners(t *testing.T) {
	for _, job := range []string{"move k 1", "split k", "join a", "abort"} {
		for step := range 24 {
			for crash := range 9 {
				name := fmt.Sprintf("%s, step %d, crash %d", job, step, crash)
				k := newTalk(t, "P40.4")
				k.says("split g", "calm 3", "put 0 k v", "put 1 a w", "calm 6", "last 0 -> 0 1 -", "last 1 -> 0 1 -")
				if job == "abort" {
					k.says("move k 2")
				}
				k.says(job)
				for range step {
					k.eager()
					k.owned(name)
				}
				node := crash % 3
				k.says(fmt.Sprintf("crash %d %d", node, k.World().Node(node).Loose()*(crash/3)/2))
				for range 12 {
					k.owned(name)
					k.eager()
				}
				k.ends(name)
				k.owned(name)
				k.says("get 0 k", "calm 6", "last 0 -> 0 1 v", "get 1 a", "calm 6", "last 1 -> 0 1 w")
			}
		}
	}
}

// P40.4: an old letter of a job that is over makes no second owner, whenever it comes.
func TestOldLetters(t *testing.T) {
	k := newTalk(t, "P40.4")
	k.says("put 0 k v", "calm 6")
	var old []api.Letter
	for _, job := range []string{"move k 1", "move k 2", "split k", "move k 0", "move a 0", "join a", "move k 1", "abort", "move k 0"} {
		for k.told(job); k.World().Mover().Job().Phase != api.MIdle; k.eager() {
			for _, l := range k.World().Bag().All() {
				if l.From == api.Mover && l.To < api.MaxNodes {
					old = append(old, l)
				}
			}
		}
		k.ends(job)
		for i, l := range old {
			k.World().Node(l.To).Take(l)
			if k.owned(fmt.Sprintf("%s, letter %d: %+v", job, i, l)); i%7 == 0 {
				k.eager()
			}
		}
		k.ends(job + ", and old letters")
	}
	if len(old) < 30 {
		t.Errorf("P40.4: only %d letters: that shows nothing", len(old))
	}
	k.says("get 0 k", "calm 6", "last 0 -> 0 1 v")
}

// P40.5: jobs end, requests are answered, watches see all; and if nobody ever answers a request is given up.
func TestEnds(t *testing.T) {
	k := newTalk(t, "P40.5")
	k.says("watch 0 - - -> ok 0", "watch 1 - m -> ok 0", "watch 2 m - -> ok 0", "put 0 a v", "put 1 z w", "get 2 m", "split m", "calm 30", "last 0 -> 0 1 -", "last 1 -> 0 1 -", "last 2 -> 14 0 -", "abort -> error 14")
	k.says("move a 1", "put 0 a v2", "put 1 z w2", "range 2 m -", "calm 40", "last 0 -> 0 2 -", "last 1 -> 0 2 -", "abort -> error 14", "plan -> - m 2 2 1; m - 3 1 0")
	k.says("told 1 0 -> a 1 v; a 2 v2", "told 2 0 -> z 1 w; z 2 w2", "state 0 0 -> on", "check -> yes")
	if got := strings.Count(k.told("told 0 0"), ";"); got != 3 {
		t.Errorf("P40.5: watch 0 of session 0: %s", k.told("told 0 0"))
	}
	k.says("move a 2", "compact 0 a 0", "put 2 z w3")
	for range 40 { // nothing comes
		for k.told("bag") != "0" {
			k.says("lose 0")
		}
		k.says("tick")
	}
	k.says("last 0 -> 21 0 -", "last 2 -> 21 0 -", "abort", "calm 30", "abort -> error 14", "plan -> - m 2 3 1; m - 3 1 0", "check -> yes")
}

// P40.6: a watch is told that it is compacted only if it hasn't seen what history has no longer.
func TestCompacted(t *testing.T) {
	for seen := range 4 {
		for keep := range 5 {
			name := fmt.Sprintf("%d were seen, %d are kept", seen, keep)
			k := newTalk(t, "P40.6")
			k.known(0)
			k.known(1)
			k.says("watch 1 k l -> ok 0")
			for i := range 4 {
				k.says(fmt.Sprintf("put 0 k v%d", i+1))
				for k.told("last 0") == "waits" {
					k.eager()
				}
				if i < seen {
					k.says("poll 1 0 8")
					for k.told("bag") != "0" {
						k.eager()
					}
				}
			}
			k.says(fmt.Sprintf("compact 0 k %d", keep))
			for k.told("last 0") == "waits" {
				k.eager()
			}
			k.says(fmt.Sprintf("last 0 -> 0 %d -", 4-keep), "state 1 0 -> on")
			k.ends(name)
			want, told := "on", []string{"k 1 v1", "k 2 v2", "k 3 v3", "k 4 v4"}
			if seen < 4-keep {
				want, told = "compacted", told[:seen]
			}
			if got := k.told("state 1 0"); got != want || k.told("told 1 0") != strings.Join(told, "; ") {
				t.Errorf("P40.6: %s: %s, told %s; want %s, %s", name, got, k.told("told 1 0"), want, told)
			}
		}
	}
}

// P40.6: at each limit, and one past it.
func TestLimits(t *testing.T) {
	k := newTalk(t, "P40.6")
	k.says("get 2 k", "get 3 k -> error 23", "trim 2", "trim 3 -> error 23", "calm 6") // sessions, nodes
	k.says("put 0 "+longKey+" "+longValue, "calm 5", "last 0 -> 0 1 -", "put 0 "+longKey+"k v -> error 10", "put 0 k "+longValue+"v", "calm 3", "last 0 -> 13 0 -", "get 0 "+longKey, "calm 3", "last 0 -> 0 1 "+longValue)
	k.says("batch 0 a 1 b 2 c 3 d 4", "calm 3", "last 0 -> 0 4 -", "batch 0 a 1 b 2 c 3 d 4 e 5 -> error 10")
	for n := range api.MaxWatches {
		k.says(fmt.Sprint("watch 0 - - -> ok ", n))
	}
	k.says("watch 0 - - -> error 19", "cancel 0 1", "watch 0 - - -> error 19")
	for i := range api.MaxRows + 4 {
		k.says(fmt.Sprintf("put 1 r%c v", 'a'+i), "calm 5")
	}
	k.says("range 0 ra s", "calm 4")
	if rows := strings.Split(k.told("last 0"), "; ")[1:]; len(rows) != api.MaxRows || rows[0] != "ra 1 v" || rows[15] != "rp 1 v" {
		t.Errorf("P40.6: rows: %q", rows)
	}
	k.says("watch 1 - - -> ok 0", "calm 5", "state 1 0 -> compacted") // 5 and MaxRows and 4 were changed: the first one goes
	if events := k.shards(false)[0].Events; len(events) != api.MaxHistory || events[0].Key != "a" {
		t.Errorf("P40.6: events: %+v", events)
	}
	for i := range api.MaxShards - 1 {
		k.says(fmt.Sprint("split ", i+1), "calm 3")
	}
	k.says("split 9 -> error 19", "calm 4", "check -> yes")
}

// P40.6: of two shards that are joined the last events alone stay, and who hasn't seen those that went is told so.
func TestManyEvents(t *testing.T) {
	k := newTalk(t, "P40.6")
	k.known(0)
	k.says("watch 1 - m -> ok 0", "watch 1 m - -> ok 1", "split m", "calm 5", "watch 2 - m -> ok 0", "watch 2 m - -> ok 1")
	for i := range 16 {
		for _, key := range []string{"a", "z"} {
			k.says(fmt.Sprintf("put 0 %s v", key))
			for k.World().Session(0).Busy() {
				k.eager()
			}
		}
		if i < 8 {
			k.says("poll 2 0 8", "poll 2 1 8")
			for k.told("bag") != "0" {
				k.eager()
			}
		}
	}
	k.says("join a")
	for k.World().Mover().Job().Phase != api.MIdle {
		k.eager()
	}
	k.bound("joined")
	if events := k.shards(false)[0].Events; len(events) != api.MaxHistory || events[0] != (api.Event{Key: "a", Version: 9, Value: "v"}) {
		t.Errorf("P40.6: %+v", events)
	}
	k.ends("joined")
	k.says("state 1 0 -> compacted", "state 1 1 -> on", "state 2 0 -> on", "state 2 1 -> on", "plan -> - - 4 1 0", "move a 1")
	k.ends("moved")
	k.says("plan -> - - 4 2 1", "get 0 a", "calm 8", "last 0 -> 0 16 v")
}

// P40.6: of too many letters the first one goes.
func TestManyLetters(t *testing.T) {
	k := newTalk(t, "P40.6")
	k.says("put 1 k w", "put 0 k v")
	for i := 2; i < api.MaxLetters; i++ {
		k.says("twice 1", fmt.Sprint("bag -> ", i+1))
	}
	k.says("twice 0 -> error 19", "bag -> 300", "calm 0", "get 2 k", "bag -> 300", "split m", "bag -> 300", "lose 300 -> error 14")
	for i, l := range k.World().Bag().All() {
		want := api.Sessions
		switch i {
		case 298:
			want = api.Sessions + 2
		case 299:
			want = api.Mover
		}
		if l.From != want {
			t.Errorf("P40.6: letter %d: %+v", i, l)
		}
	}
	k.bound("many letters")
	k.ends("many letters")
	if got := k.told("last 0") + k.told("last 1"); got != "0 1 -0 2 -" && got != "0 2 -0 1 -" {
		t.Errorf("P40.6: %s", got)
	}
}

// P40.6: a full disk answers nothing, and what was answered stays; a trim makes room.
func TestFullDisk(t *testing.T) {
	k := newTalk(t, "P40.6")
	k.known(0)
	many := 0
	for ; many < 20000; many++ {
		k.says(fmt.Sprintf("put 0 k v%d", many), "calm 2")
		if k.World().Session(0).Busy() {
			break
		}
	}
	if want := fmt.Sprintf("k %d v%dfalse; ", many, many-1); many < 4000 || many > 9000 || k.cells() != want {
		t.Fatalf("P40.6: %d were put: %s", many, k.cells())
	}
	k.says("crash 0 0", "calm 40", "last 0 -> 21 0 -", "get 0 k", "calm 3", fmt.Sprintf("last 0 -> 0 %d v%d", many, many-1), "move k 1", "calm 40", "abort", "calm 40", "abort -> error 20", "trim 0", "calm 40", "abort -> error 14", "put 0 k v", "calm 3", fmt.Sprintf("last 0 -> 0 %d -", many+1), "check -> yes")
}
