package audit_test

import (
	"fmt"
	"math"
	"slices"
	"strings"
	"testing"

	"estuary/api"
	"estuary/audit"
)

// fed: what one watch was told, a word each: of a word in brackets a twin of its session is told instead, which has the same watches but notes what it is told by itself.
func (f *fake) fed(who, watch int, words string) {
	f.t.Helper()
	s := f.Session(who)
	twin := *s
	for text := range strings.FieldsSeq(words) {
		e := ev(strings.Trim(text, "()"))
		if text[0] == '(' {
			feed(&twin, who, watch, e)
		} else {
			feed(s, who, watch, e)
		}
		if x, _ := s.Get(watch); !slices.Contains(x.Seen, seen(e.Key, e.Version)) {
			f.t.Fatalf("P27.3: %s: not told: %s", words, text)
		}
	}
}

func (f *fake) isFeeds(name string, want bool) {
	f.t.Helper()
	if got := audit.Feeds(f.World); got != want {
		f.t.Errorf("P27.3: %s: Feeds %v", name, got)
	}
}

// P27.3: what lacks in between, or behind all, of each watch of each session, though it is over.
func TestFeeds(t *testing.T) {
	rows := []struct {
		words string
		want  bool
	}{
		{"", true}, {"k1v", true}, {"k1v k2v k3 k4v", true}, {"k1v b1v k2v b2 k3v", true}, {"k1-", true},
		{"(k1v)", true}, {"(k1v) k2v", true}, {"(k1v) (k2v) k3v k4", true},
		{"k1v (k2v) k3v", false}, {"k1v k2v (k3) (k4v) k5v k6v", false}, {"k1v (k2v)", false}, {"k1v k2v (k3)", false},
		{"k1v b1v (b2v) k2v b3v", false}, {"b1v k1v (k2v) b2v k3v", false}, {"b1v k1v (k2v) b2v", false}, {"b1v k1v (b2v) k2v", false},
		{"k1v (b1v) k2v b2v", true}, {"(b1v) k1v", true},
	}
	for _, x := range rows {
		for who := range api.MaxSessions {
			for n := range api.MaxWatches {
				f := newFake(t)
				for range api.MaxWatches {
					f.watch(who, all)
				}
				f.fed(who, n, x.words)
				name := fmt.Sprint("session ", who, ", watch ", n, ": ", x.words)
				f.isFeeds(name, x.want)
				f.Session(who).Cancel(n)
				f.isFeeds(name+", cancelled", x.want)
				if !audit.Linear(f.World) || !audit.Owners(f.World) || !audit.Kept(f.World) {
					t.Errorf("P27.3: %s: of Feeds alone", name)
				}
			}
		}
	}
}

// P27.3: of two watches of one key each goes on by itself; likewise of two sessions.
func TestWatches(t *testing.T) {
	f := newFake(t)
	f.watch(0, all)
	f.watch(0, sp("b", "m"), seen("k", 4))
	f.watch(2, all, seen("b", 7), seen("k", 1))
	for i := range 3 {
		f.tell(0, 0, api.Event{Key: "k", Version: 1 + i})
		f.tell(0, 1, api.Event{Key: "k", Version: 5 + i})
		f.tell(2, 0, api.Event{Key: "k", Version: 2 + i}, api.Event{Key: "a", Version: 1 + i})
	}
	f.isFeeds("three watches", true)
	f.Session(0).Take(api.Letter{Kind: api.LFeed, To: api.Sessions, N: [5]int{1, 0, 3, 1}}, 9)
	if x, _ := f.Session(0).Get(1); x.Over != 1 {
		t.Fatalf("P27.3: not compacted: %+v", x)
	}
	f.isFeeds("three watches, one is compacted", true)
}

// keyIn: by the words of layer 1.
func keyIn(s api.Span, key string) bool { return s.From <= key && (s.To == "" || key < s.To) }

// busy: the mover has a job, so the plan isn't looked at, and nodes may have what one likes.
func busy(t *testing.T) *fake {
	f := newFake(t)
	if err := f.Do(api.Act{Kind: api.AMove, Key: "k", Who: 1}); err != nil {
		t.Fatal(err)
	}
	f.hold(0)
	return f
}

func (f *fake) isOwners(name string, want bool) {
	f.t.Helper()
	if got := audit.Owners(f.World); got != want {
		f.t.Errorf("P27.3: %s: Owners %v", name, got)
	}
}

// P27.3: of all spans each two, at one node or at two; frozen ones have no keys.
func TestApart(t *testing.T) {
	ends := []string{"", "\x00", "\x00\x00", "a", "b", "bb", "m", strings.Repeat("m", api.MaxKey), "\xff"}
	var spans []api.Span
	for _, from := range ends {
		for _, to := range ends {
			if to == "" || from < to {
				spans = append(spans, sp(from, to))
			}
		}
	}
	for i, a := range spans {
		for k, b := range spans {
			share := slices.ContainsFunc(ends[1:], func(key string) bool { return keyIn(a, key) && keyIn(b, key) })
			f := busy(t)
			f.add(i%3, in(holding(), a.From, a.To))
			f.add(k%3, in(holding(), b.From, b.To))
			f.isOwners(fmt.Sprintf("%q, %q", a, b), !share)
			f = busy(t)
			f.add(i%3, in(frozen(holding()), a.From, a.To))
			f.add(k%3, in(holding(), b.From, b.To))
			f.add((i+1)%3, in(frozen(holding()), b.From, b.To))
			f.isOwners(fmt.Sprintf("frozen: %q; %q", a, b), true)
		}
	}
}

// P27.3: of many shards any two.
func TestManyApart(t *testing.T) {
	for i := range 6 {
		for k := range 6 {
			f := busy(t)
			for n := range 6 {
				key := fmt.Sprint(n)
				f.add(n%3, in(holding(), key, key+"x"))
			}
			f.isOwners("six shards", true)
			f.add(k%3, in(holding(), fmt.Sprint(i, "w"), fmt.Sprint(i, "z")))
			f.isOwners(fmt.Sprint("one more at ", i), false)
		}
	}
}

// planned: a world with three shards, one at each node, and no job.
func planned(t *testing.T) *fake {
	t.Helper()
	f := newFake(t)
	for _, a := range []api.Act{{Kind: api.ASplit, Key: "h"}, {Kind: api.ASplit, Key: "p"}, {Kind: api.AMove, Key: "k", Who: 1}, {Kind: api.AMove, Key: "z", Who: 2}} {
		if err := f.Do(a); err != nil {
			t.Fatal(err)
		}
		f.Calm(30)
	}
	var at []int
	for _, p := range f.Mover().Plan() {
		at = append(at, p.Node)
	}
	if !slices.Equal(at, []int{0, 1, 2}) {
		t.Fatalf("P27.3: no plan: %+v", f.Mover().Plan())
	}
	return f
}

// P27.3: of each Place its node has that shard, of that number, that Epoch, that Span, and not frozen. While there is a job that isn't looked at.
func TestPlaces(t *testing.T) {
	breaks := map[string]func(s *api.Shard){
		"as it is": func(s *api.Shard) {}, "another number": func(s *api.Shard) { s.ID = 99 },
		"a later epoch": func(s *api.Shard) { s.Epoch++ }, "an earlier epoch": func(s *api.Shard) { s.Epoch = max(1, s.Epoch-1) },
		"a later From": func(s *api.Shard) { s.Span.From += "a" }, "an earlier To": func(s *api.Shard) { s.Span.To = s.Span.From + "b" },
		"frozen": func(s *api.Shard) { s.Frozen = true }, "cells": func(s *api.Shard) { s.Cells = holding(api.Event{Key: s.Span.From + "c", Version: 1}).Cells },
	}
	for i := range api.MaxNodes {
		for name, change := range breaks {
			f := planned(t)
			f.isOwners("planned", true)
			l := f.Node(i).Hold().Shards()
			was := l[0]
			change(&l[0])
			want := name == "cells" || name == "as it is" || name == "an earlier epoch" && was.Epoch == 1
			f.hold(i, l...)
			f.isOwners(fmt.Sprint("node ", i, ": ", name), want)
			if err := f.Do(api.Act{Kind: api.ASplit, Key: "a"}); err != nil {
				t.Fatal(err)
			}
			f.isOwners(fmt.Sprint("node ", i, ", and a job: ", name), true)
			f.Do(api.Act{Kind: api.AAbort})
		}
		f := planned(t)
		l := f.Node(i).Hold().Shards()
		f.hold(i)
		f.isOwners(fmt.Sprint("node ", i, " has nothing"), false)
		f.hold((i+1)%3, append(f.Node((i+1)%3).Hold().Shards(), l...)...)
		f.isOwners(fmt.Sprint("node ", i, "'s is at another one"), false)
		f.hold(i, l...)
		f.isOwners(fmt.Sprint("node ", i, "'s is there twice"), false)
	}
}

// P27.3: a job of each phase.
func TestPhases(t *testing.T) {
	back := func(f *fake, kind, from int, n ...int) {
		l := api.Letter{Kind: kind, From: from, To: api.Mover, Data: "x"}
		copy(l.N[:], n)
		f.Mover().Take(l)
	}
	f := newFake(t)
	f.hold(0)
	f.isOwners("no job", false)
	is := func(phase int, want bool) {
		t.Helper()
		if got := f.Mover().Job().Phase; got != phase {
			t.Fatalf("P27.3: phase %d, not %d", got, phase)
		}
		f.isOwners(fmt.Sprint("phase ", phase), want)
	}
	f.Do(api.Act{Kind: api.AMove, Key: "k", Who: 2})
	is(api.MFreeze, true)
	back(f, api.LFrozen, 0, 1, 1, 1)
	is(api.MPull, true)
	f.Do(api.Act{Kind: api.AAbort})
	is(api.MThaw, true)
	back(f, api.LThawed, 0, 1, 1)
	is(api.MIdle, false)
	f.Do(api.Act{Kind: api.AMove, Key: "k", Who: 2})
	back(f, api.LFrozen, 0, 1, 2, 1)
	back(f, api.LPiece, 0, 1, 2, 0)
	is(api.MPush, true)
	back(f, api.LPushed, 2, 1, 3, 0)
	is(api.MInstall, true)
	back(f, api.LInstalled, 2, 1, 3, 0)
	is(api.MDrop, true)
	back(f, api.LDropped, 0, 1, 2)
	is(api.MIdle, false)
	f.Do(api.Act{Kind: api.ASplit, Key: "k"})
	is(api.MCut, true)
	back(f, api.LCut, 2, 1, 3, 1, 2)
	is(api.MIdle, false)
	s := holding()
	s.Epoch = 3
	f.hold(2, s)
	is(api.MIdle, true)
}

func (f *fake) isKept(name string, want bool) {
	f.t.Helper()
	if got := audit.Kept(f.World); got != want {
		f.t.Errorf("P27.3: %s: Kept %v", name, got)
	}
}

// P27.3: what changed a key is there, or what came behind it: at whatever node, in whatever shard.
func TestKept(t *testing.T) {
	for i, o := range []api.Op{put("k", "v"), del("k"), cas("k", "v", 3)} {
		for who := range api.MaxSessions {
			f := newFake(t)
			f.call(who, o, 1, 2, api.Answer{Version: 4})
			f.call(who, get("k"), 3, 4, api.Answer{Version: 4})
			name := fmt.Sprint(o, " of session ", who)
			f.isKept(name+": no cell", false)
			f.add(who, holding(evs("a9v", "kk9v")...))
			f.add(i, holding(ev("k3v")))
			f.isKept(name+": an earlier one", false)
			f.add((who+1)%3, frozen(holding(evs("b1v", "k4w", "z1v")...)))
			f.isKept(name+": frozen", true)
			f.hold((who + 1) % 3)
			f.isKept(name+": gone", false)
			f.add(i, holding(ev("k5")))
			f.isKept(name+": deleted since", true)
			f.call((who+1)%3, put("k", "w"), 5, 6, api.Answer{Version: 6})
			f.isKept(name+": and one more", false)
		}
	}
}

// P27.3: what didn't change one key, or isn't known to have.
func TestNotKept(t *testing.T) {
	many := api.Op{Kind: api.OCompact, Key: "k", Version: 1}
	for _, o := range []api.Op{get("k"), between("k", ""), batch("v", "k"), many} {
		f := newFake(t)
		f.call(0, o, 1, 2, api.Answer{Version: 4, Rows: []api.Row{{Key: "k", Version: 4}}})
		f.isKept(fmt.Sprint(o), true)
	}
	for _, o := range []api.Op{put("k", "v"), del("k"), cas("k", "v", 3)} {
		for _, code := range []api.Errno{api.ErrForm, api.ErrLarge, api.ErrNone, api.ErrClash, api.ErrSpent, api.ErrGiven, -1} {
			f := newFake(t)
			f.call(0, o, 1, 2, api.Answer{Code: int(code), Version: 4})
			f.isKept(fmt.Sprint(o, " of ", code), true)
		}
		f := newFake(t)
		f.waits(0, o, 1)
		f.isKept(fmt.Sprint(o, " waits"), true)
		for _, version := range []int{math.MinInt, -1, 0} {
			f = newFake(t)
			f.call(0, o, 1, 2, api.Answer{Version: version})
			f.isKept(fmt.Sprint(o, " of Version ", version, ", no cell"), false)
			f.add(1, holding(ev("k1v")))
			f.isKept(fmt.Sprint(o, " of Version ", version), true)
		}
	}
}
