package watcher_test

import (
	"errors"
	"fmt"
	"math"
	"math/rand"
	"slices"
	"testing"

	"estuary/api"
	"estuary/fault"
	"estuary/letter"
	"estuary/watcher"
)

var odd = []int{math.MinInt, -1000, -3, -2, -1, 3, 4, 5, 100, api.MaxRev, math.MaxInt}

func isWatch(t *testing.T, name string, w *watcher.Watcher, n int, want api.Watch) {
	t.Helper()
	if got, ok := w.Get(n); !ok || !sameWatch(got, want) {
		t.Fatalf("P24.2: %s: %+v, %v; not %+v", name, got, ok, want)
	}
}

func isTold(t *testing.T, name string, got events, want ...api.Event) {
	t.Helper()
	if !slices.Equal(got, want) {
		t.Fatalf("P24.2: %s: told: %+v, not %+v", name, got, want)
	}
}

func isSaid(t *testing.T, name string, got letters, want ...api.Letter) {
	t.Helper()
	if !sameLetters(got, want) {
		t.Fatalf("P24.1: %s: said: %+v, not %+v", name, got, want)
	}
}

// P24.1, P24.2: a new one has no watch.
func TestNew(t *testing.T) {
	w := watcher.New(0)
	if w.Len() != 0 {
		t.Errorf("P24.1: Len %d", w.Len())
	}
	for _, n := range append(odd, 0, 1, 2) {
		if x, ok := w.Get(n); ok || !sameWatch(x, api.Watch{}) {
			t.Errorf("P24.2: Get(%d): %+v, %v", n, x, ok)
		}
		if l, err := w.Poll(n, 1, three()); l != nil || !errors.Is(err, api.ErrPlace) || fault.Code(err) != 23 {
			t.Errorf("P24.1: Poll(%d): %+v, %v", n, l, err)
		}
		if err := w.Cancel(n); !errors.Is(err, api.ErrPlace) || fault.Code(err) != 23 {
			t.Errorf("P24.1: Cancel(%d): %v", n, err)
		}
		if told, old := w.Take(feed(0, 0, n, 0, 0, 1, ev("a", 1))); told != nil || old {
			t.Errorf("P24.2: Take of watch %d: %+v, %v", n, told, old)
		}
	}
}

// P24.1, P24.2: a watch from its beginning to its end, each step written out.
func TestOne(t *testing.T) {
	w := watcher.New(1)
	n, err := w.Watch(sp("b", "x"), seens{seen("e", 3), seen("n", 0), seen("p", 7)})
	if n != 0 || err != nil || w.Len() != 1 {
		t.Fatalf("P24.1: %d, %v, Len %d", n, err, w.Len())
	}
	isWatch(t, "Watch", w, 0, api.Watch{Span: sp("b", "x"), Seen: seens{seen("e", 3), seen("n", 0), seen("p", 7)}})
	said, err := w.Poll(0, 5, three())
	isSaid(t, "Poll", said,
		poll(1, 1, 0, 5, 0, "b", "d"),
		poll(1, 0, 0, 5, 0, "d", "m", seen("e", 3)),
		poll(1, 2, 0, 5, 0, "m", "x", seen("n", 0), seen("p", 7)))
	for _, l := range said {
		if !letter.Is(l) {
			t.Errorf("P24.1: ill-formed: %+v", l)
		}
	}
	if err != nil {
		t.Error(err)
	}
	told, old := w.Take(feed(1, 0, 0, 0, 0, 0, ev("e", 4), gone("e", 5), ev("f", 1), ev("g", 2)))
	isTold(t, "a feed", told, ev("e", 4), gone("e", 5), ev("f", 1))
	if old {
		t.Error("P24.2: the plan isn't old")
	}
	told, old = w.Take(feed(1, 2, 0, 0, 0, 1, ev("p", 9), ev("n", 1), ev("p", 8), ev("p", 9)))
	isTold(t, "the other feed", told, ev("n", 1), ev("p", 8), ev("p", 9))
	if !old {
		t.Error("P24.2: the plan is old: it speaks for a part")
	}
	now := api.Watch{Span: sp("b", "x"), Seen: seens{seen("e", 5), seen("f", 1), seen("n", 1), seen("p", 9)}, Tells: 6}
	isWatch(t, "the feeds", w, 0, now)
	told, old = w.Take(feed(1, 1, 0, 0, 1, 0))
	isTold(t, "an old compacted one", told)
	isWatch(t, "an old compacted one", w, 0, now)
	told, old2 := w.Take(feed(1, 1, 0, 6, 2, 0, ev("e", 6)))
	isTold(t, "not here", told)
	isWatch(t, "not here", w, 0, now)
	if old || !old2 {
		t.Errorf("P24.2: %v, %v", old, old2)
	}
	said, _ = w.Poll(0, 8, three()[1:2])
	isSaid(t, "Poll", said, poll(1, 0, 0, 8, 6, "d", "m", seen("e", 5), seen("f", 1)))
	told, old = w.Take(feed(1, 0, 0, 6, 1, 1, ev("e", 6)))
	isTold(t, "compacted", told)
	if !old {
		t.Error("P24.2: of a compacted one that speaks for a part the plan is old, too")
	}
	now.Over = 1
	isWatch(t, "compacted", w, 0, now)
	told, old = w.Take(feed(1, 0, 0, 6, 0, 1, ev("e", 6)))
	isTold(t, "over", told)
	if said, err = w.Poll(0, 8, three()); old || said != nil || !errors.Is(err, api.ErrCompact) {
		t.Errorf("P24.1: %v, %+v, %v", old, said, err)
	}
	if err = w.Cancel(0); !errors.Is(err, api.ErrCompact) {
		t.Errorf("P24.1: %v", err)
	}
	isWatch(t, "over", w, 0, now)
	if n, err = w.Watch(sp("", ""), nil); n != 1 || err != nil || w.Len() != 2 {
		t.Errorf("P24.1: %d, %v, Len %d", n, err, w.Len())
	}
	if err = w.Cancel(1); err != nil {
		t.Error(err)
	}
	isWatch(t, "cancelled", w, 1, api.Watch{Over: 2})
	isWatch(t, "the other one", w, 0, now)
}

// P24.1: which spans and tokens there are.
func TestWatch(t *testing.T) {
	all := sp("", "")
	cases := []struct {
		s    api.Span
		l    seens
		code api.Errno
	}{
		{all, nil, 0}, {all, seens{}, 0}, {sp("b", "d"), nil, 0}, {sp(longest, ""), nil, 0}, {sp("", longest), nil, 0}, {sp("", "\x00"), nil, 0},
		{sp(tooLong, ""), nil, 10}, {sp("", tooLong), nil, 10}, {sp("b", "b"), nil, 10}, {sp("d", "b"), nil, 10}, {sp("b", "b\x00"), nil, 0},
		{all, seens{seen("a", 0)}, 0}, {all, seens{seen("a", api.MaxRev)}, 0}, {all, seens{seen("a", api.MaxRev+1)}, 10}, {all, seens{seen("a", -1)}, 10},
		{all, seens{seen("", 1)}, 10}, {all, seens{seen(longest, 1)}, 0}, {all, seens{seen(tooLong, 1)}, 10},
		{all, seens{seen("a", 1), seen("b", 1)}, 0}, {all, seens{seen("b", 1), seen("a", 1)}, 10}, {all, seens{seen("a", 1), seen("a", 1)}, 10},
		{sp("b", "d"), seens{seen("b", 1), seen("c\xff", 1)}, 0}, {sp("b", "d"), seens{seen("b", 1), seen("d", 1)}, 10}, {sp("b", "d"), seens{seen("a\xff", 1), seen("c", 1)}, 10}, {sp("b", "d"), seens{seen("a", 0)}, 10},
		{sp("b", "b"), seens{seen("b", 1)}, 10},
		{all, many(59, 1), 0}, {all, many(60, 0), 0}, {all, many(61, 1), 10}, {all, many(200, 1), 10}, {sp("k", "k030"), many(30, 1), 0}, {sp("k", "k030"), many(31, 1), 10}, {sp("k001", ""), many(30, 1), 10},
	}
	for _, c := range cases {
		p := both(t, 0)
		n, err := p.watch(c.s, c.l...)
		if n != 0 || fault.Code(err) != c.code || p.w.Len() != map[bool]int{true: 1}[err == nil] {
			t.Errorf("P24.1: Watch(%q, %v): %d, %v; not %d", c.s, c.l, n, err, c.code)
		}
		// no room for a fourth one, whatever it is; but what is ill-formed is told ahead of that
		p = watching(t, 0, all, sp("b", "d"), all)
		n, err = p.watch(c.s, c.l...)
		want := c.code
		if want == 0 {
			want = 19
		}
		if n != 0 || !errors.Is(err, want) || fault.Code(err) != want || p.w.Len() != 3 {
			t.Errorf("P24.1: Watch(%q, %v), the fourth: %d, %v; not %d", c.s, c.l, n, err, want)
		}
	}
}

// P24.1: numbers go 0, 1, 2; one that is over makes no room.
func TestFull(t *testing.T) {
	p := both(t, 0)
	for i := range api.MaxWatches {
		if _, err := p.watch(sp("b", "b")); err == nil {
			t.Fatal("P24.1: ill-formed")
		}
		if n, err := p.watch(sp("", "d"), seen("a", i)); n != i || err != nil {
			t.Fatalf("P24.1: watch %d: %d, %v", i, n, err)
		}
	}
	p.cancel(1)
	p.take(feed(0, 0, 2, 0, 1, 0))
	for range 3 {
		if n, err := p.watch(sp("", "")); n != 0 || fault.Code(err) != 19 || p.w.Len() != 3 {
			t.Fatalf("P24.1: one too many: %d, %v, Len %d", n, err, p.w.Len())
		}
		if _, err := p.watch(sp("d", "b")); fault.Code(err) != 10 {
			t.Fatalf("P24.1: %v: what is ill-formed is told first", err)
		}
	}
	isSaid(t, "the first one goes on", p.poll(0, 1, three()), poll(0, 1, 0, 1, 0, "", "d", seen("a", 0)))
}

// P24.1: what is said to whom.
func TestPoll(t *testing.T) {
	p := both(t, 2)
	p.watch(sp("", ""), many(60, 4)...)
	p.watch(sp("k010", "k030"), many(30, 2)[10:]...)
	p.watch(sp("x", "x\x00"))
	parts := places{at(1, "", "k020"), at(0, "k020", "k020\x00"), at(2, "k020\x00", "")}
	isSaid(t, "all", p.poll(0, 8, parts), poll(2, 1, 0, 8, 0, "", "k020", many(20, 4)...), poll(2, 0, 0, 8, 0, "k020", "k020\x00", seen("k020", 4)), poll(2, 2, 0, 8, 0, "k020\x00", "", many(60, 4)[21:]...))
	isSaid(t, "some", p.poll(1, 1, parts), poll(2, 1, 1, 1, 0, "k010", "k020", many(20, 2)[10:]...), poll(2, 0, 1, 1, 0, "k020", "k020\x00", seen("k020", 2)), poll(2, 2, 1, 1, 0, "k020\x00", "k030", many(30, 2)[21:]...))
	isSaid(t, "one key", p.poll(2, 1, parts), poll(2, 2, 2, 1, 0, "x", "x\x00"))
	isSaid(t, "all in one", p.poll(0, 1, places{at(0, "", "")}), poll(2, 0, 0, 1, 0, "", "", many(60, 4)...))
	for _, l := range []places{nil, {}, {at(0, "b", "b")}, {at(0, "d", "b")}, {at(0, tooLong, "")}, {at(0, "", tooLong)}} {
		isSaid(t, "nobody", p.poll(0, 8, l))
	}
	isSaid(t, "elsewhere", p.poll(1, 8, places{at(0, "", "k010"), at(1, "k030", "")}))
	// a plan that is none: each place is asked, wherever it is
	cross := places{at(9, "k000", "k002"), at(-1, "", "k001"), at(math.MinInt, "z", ""), at(0, "d", "b"), at(9, "k000", "k002"), {}}
	isSaid(t, "no plan", p.poll(0, 3, cross), poll(2, 9, 0, 3, 0, "k000", "k002", many(2, 4)...), poll(2, -1, 0, 3, 0, "", "k001", many(1, 4)...), poll(2, math.MinInt, 0, 3, 0, "z", ""), poll(2, 9, 0, 3, 0, "k000", "k002", many(2, 4)...), poll(2, 0, 0, 3, 0, "", "", many(60, 4)...))
	for credit := -2; credit <= api.MaxCredit+2; credit++ {
		isSaid(t, fmt.Sprint("credit ", credit), p.poll(2, credit, places{at(0, "", "")}), poll(2, 0, 2, min(max(credit, 0), 8), 0, "x", "x\x00"))
	}
	for _, credit := range []int{math.MinInt, math.MaxInt} {
		p.poll(2, credit, parts)
	}
	// by what was told since
	for i := 1; i <= 20; i++ {
		p.take(feed(2, 0, 2, 0, 0, 0, ev("x", i)))
		isSaid(t, fmt.Sprint("behind ", i), p.poll(2, 8, parts), poll(2, 2, 2, 8, i, "x", "x\x00", seen("x", i)))
	}
	isSaid(t, "another one was told nothing", p.poll(0, 8, places{at(0, "z", "")}), poll(2, 0, 0, 8, 0, "z", ""))
}

// P24.1: which error is told, and that it changes nothing.
func TestErrors(t *testing.T) {
	p := watching(t, 0, sp("", ""), sp("", ""), sp("b", ""))
	p.cancel(0)
	p.take(feed(0, 2, 1, 0, 1, 0))
	code := map[int]api.Errno{0: 24, 1: 24, 2: 0}
	for _, n := range append(odd, 0, 1, 2) {
		want, there := code[n]
		if !there {
			want = 23
		}
		for _, credit := range []int{-1, 0, 8, 9} {
			for _, plan := range []places{nil, three(), {{}}} {
				l, err := p.w.Poll(n, credit, plan)
				if fault.Code(err) != want || err != nil && (l != nil || !errors.Is(err, want)) {
					t.Errorf("P24.1: Poll(%d): %+v, %v; not %d", n, l, err, want)
				}
				p.poll(n, credit, plan)
			}
		}
		if n != 2 {
			if err := p.cancel(n); fault.Code(err) != want || !errors.Is(err, want) {
				t.Errorf("P24.1: Cancel(%d): %v; not %d", n, err, want)
			}
		}
		if _, ok := p.w.Get(n); ok != there {
			t.Errorf("P24.2: Get(%d): %v", n, ok)
		}
	}
	isWatch(t, "cancelled", p.w, 0, api.Watch{Over: 2})
	isWatch(t, "compacted", p.w, 1, api.Watch{Over: 1})
	if err := p.cancel(2); err != nil {
		t.Error(err)
	}
	if err := p.cancel(2); fault.Code(err) != 24 {
		t.Errorf("P24.1: cancelled twice: %v", err)
	}
	isWatch(t, "cancelled", p.w, 2, api.Watch{Span: sp("b", ""), Over: 2})
}

// P24.2: from whom, of what Kind, for which watch; all else is nothing.
func TestWhose(t *testing.T) {
	begin := func() *pair {
		p := watching(t, 0, sp("", ""), sp("", ""))
		p.cancel(1)
		return p
	}
	for _, what := range []int{0, 1, 2} {
		for node := range api.MaxNodes {
			p := begin()
			told, old := p.take(feed(0, node, 0, 0, what, 1, ev("a", 1)))
			x, _ := p.w.Get(0)
			if len(told) != map[int]int{0: 1}[what] || !old || x.Over != map[int]int{1: 1}[what] {
				t.Errorf("P24.2: from node %d: %+v, %v, %+v", node, told, old, x)
			}
		}
		for _, from := range append(odd, api.Mover, api.Sessions, api.Sessions+1) {
			if told, old := begin().take(feed(0, from, 0, 0, what, 1, ev("a", 1))); told != nil || old {
				t.Errorf("P24.2: from %d: %+v, %v", from, told, old)
			}
		}
		for _, n := range append(odd, 1, 2) {
			if told, old := begin().take(feed(0, 0, n, 0, what, 1, ev("a", 1))); told != nil || old {
				t.Errorf("P24.2: of watch %d: %+v, %v", n, told, old)
			}
		}
		for kind := -1; kind <= api.LCut+2; kind++ {
			l := feed(0, 0, 0, 0, what, 1, ev("a", 1))
			l.Kind = kind
			if told, old := begin().take(l); (told != nil || old) && kind != api.LFeed {
				t.Errorf("P24.2: of kind %d: %+v, %v", kind, told, old)
			}
		}
	}
	// whom it is to, and what else it has, says nothing
	l := feed(2, 0, 0, 0, 0, 0, ev("a", 1))
	l.N[1], l.Span, l.Seen, l.Data = 99, sp("z", ""), seens{seen("a", 9)}, "data"
	told, _ := begin().take(l)
	isTold(t, "to another one", told, ev("a", 1))
}

// P24.2: N[3] and N[4], of whatever number.
func TestWhat(t *testing.T) {
	for _, what := range append(odd, 0, 1, 2) {
		for _, part := range append(odd, 0, 1, 2) {
			for _, tells := range []int{math.MinInt, -1, 0, 1, 2, 3, 4, math.MaxInt} {
				p := watching(t, 0, sp("", ""))
				p.take(feed(0, 0, 0, 0, 0, 0, ev("a", 1), ev("b", 1)))
				told, old := p.take(feed(0, 0, 0, tells, what, part, ev("a", 2), ev("b", 2), ev("c", 2)))
				over, many := 0, 2
				if what == 1 && tells == 2 {
					over = 1
				}
				if what == 1 || what == 2 {
					many = 0
				}
				x, _ := p.w.Get(0)
				if len(told) != many || x.Tells != 2+many || x.Over != over || old != (what == 2 || part == 1) {
					t.Errorf("P24.2: N[2..4] %d, %d, %d: %+v, %v, %+v", tells, what, part, told, old, x)
				}
			}
		}
	}
}

// P24.2, P24.3: the very next version of each key, or none.
func TestNext(t *testing.T) {
	cases := []struct {
		s    api.Span
		l    seens
		come events
		told events
	}{
		{sp("", ""), nil, events{ev("a", 2)}, nil},
		{sp("", ""), nil, events{ev("a", 1)}, events{ev("a", 1)}},
		{sp("", ""), nil, events{ev("a", 0), ev("a", -1), ev("a", math.MinInt), ev("a", math.MaxInt)}, nil},
		{sp("", ""), nil, events{ev("b", 1), ev("a", 1), ev("b", 2)}, events{ev("b", 1), ev("a", 1), ev("b", 2)}},
		{sp("", ""), nil, events{ev("b", 2), ev("b", 1), ev("b", 3)}, events{ev("b", 1)}},
		{sp("", ""), nil, events{ev("b", 1), ev("b", 1), ev("b", 2), gone("b", 2)}, events{ev("b", 1), ev("b", 2)}},
		{sp("", ""), nil, events{gone("b", 1), ev("b", 2), gone("b", 3)}, events{gone("b", 1), ev("b", 2), gone("b", 3)}},
		{sp("", ""), seens{seen("b", 5)}, events{ev("b", 4), ev("b", 5), ev("b", 7), ev("b", 6), ev("b", 7)}, events{ev("b", 6), ev("b", 7)}},
		{sp("", ""), seens{seen("b", 0)}, events{ev("b", 1)}, events{ev("b", 1)}},
		{sp("b", "d"), nil, events{ev("a\xff", 1), ev("b", 1), ev("c\xff", 1), ev("d", 1), ev("", 1), ev(tooLong, 1)}, events{ev("b", 1), ev("c\xff", 1)}},
		{sp("", ""), nil, events{ev(longest, 1), ev(tooLong, 1), ev("", 1), ev("\x00", 1), ev("\xff", 1)}, events{ev(longest, 1), ev("\x00", 1), ev("\xff", 1)}},
		{sp("", ""), seens{seen("a", api.MaxRev), seen("b", api.MaxRev-1), seen("c", api.MaxRev-2)}, events{ev("a", api.MaxRev+1), ev("b", api.MaxRev), ev("b", api.MaxRev+1), ev("c", api.MaxRev)}, events{ev("b", api.MaxRev)}},
		{sp("", ""), nil, nil, nil},
		{sp("", ""), nil, events{{Key: "a", Version: 1, Value: longest + longest + longest + longest + longest + longest, Del: true}}, events{{Key: "a", Version: 1, Value: longest + longest + longest + longest + longest + longest, Del: true}}},
	}
	for _, c := range cases {
		p := both(t, 0)
		p.watch(c.s, c.l...)
		told, _ := p.take(feed(0, 0, 0, 0, 0, 0, c.come...))
		isTold(t, fmt.Sprintf("%q, %v, a feed of %v", c.s, c.l, c.come), told, c.told...)
		if x, _ := p.w.Get(0); x.Tells != len(c.told) || x.Over != 0 {
			t.Errorf("P24.2: %+v, not %d Tells", x, len(c.told))
		}
		told, _ = p.take(feed(0, 1, 0, len(c.told), 0, 0, c.told...))
		isTold(t, "the same once more", told)
	}
}

// P24.2: more events than a letter may have are told, too, and each one counts.
func TestLongFeed(t *testing.T) {
	p := watching(t, 0, sp("", ""))
	var l events
	for i := range 3000 {
		l = append(l, ev(fmt.Sprint("k", i%7), i/7+1))
	}
	told, _ := p.take(feed(0, 0, 0, 0, 0, 0, l...))
	isTold(t, "a long feed", told, l...)
	if x, _ := p.w.Get(0); x.Tells != 3000 || len(x.Seen) != 7 || x.Seen[0] != seen("k0", 429) {
		t.Errorf("P24.2: %+v", x)
	}
}

// P24.2: Seen has room for 60 keys; one that it has needs none.
func TestRoom(t *testing.T) {
	news := events{ev("x0", 1), ev("x1", 1), ev("x2", 1), ev("x3", 1), ev("a", 1)}
	for n := 56; n <= 60; n++ {
		for _, v := range []int{0, 4} {
			p := both(t, 0)
			p.watch(sp("", ""), many(n, v)...)
			told, _ := p.take(feed(0, 0, 0, 0, 0, 0, news...))
			isTold(t, fmt.Sprintf("%d of Version %d are seen", n, v), told, news[:60-n]...)
			told, _ = p.take(feed(0, 0, 0, 0, 0, 0, ev("a", 1), ev("k000", v+1), ev("z", 1), ev("k055", v+1), ev("k055", v+2), ev("a", 1)))
			isTold(t, fmt.Sprintf("60 are seen, %d of Version %d at first", n, v), told, ev("k000", v+1), ev("k055", v+1), ev("k055", v+2))
			x, _ := p.w.Get(0)
			if len(x.Seen) != 60 || x.Tells != 60-n+3 {
				t.Errorf("P24.2: %d Seen, %d Tells", len(x.Seen), x.Tells)
			}
			for _, l := range p.poll(0, 8, places{at(0, "", "")}) {
				if !letter.Is(l) || len(l.Seen) != 60 {
					t.Errorf("P24.1: ill-formed: %+v", l)
				}
			}
		}
	}
	// in another watch there is room still
	p := both(t, 0)
	p.watch(sp("", ""), many(60, 1)...)
	p.watch(sp("", ""))
	told, _ := p.take(feed(0, 0, 1, 0, 0, 0, ev("a", 1)))
	isTold(t, "the other one", told, ev("a", 1))
}

// P24.1, P24.2: watches of one session know nothing of one another.
func TestApart(t *testing.T) {
	p := watching(t, 0, sp("", ""), sp("", ""), sp("c", ""))
	p.take(feed(0, 0, 1, 0, 0, 0, ev("d", 1)))
	p.take(feed(0, 0, 2, 0, 0, 0, ev("d", 1), ev("d", 2)))
	p.take(feed(0, 0, 0, 0, 0, 0, ev("d", 2)))
	isWatch(t, "the first", p.w, 0, api.Watch{})
	isWatch(t, "the second", p.w, 1, api.Watch{Seen: seens{seen("d", 1)}, Tells: 1})
	isWatch(t, "the third", p.w, 2, api.Watch{Span: sp("c", ""), Seen: seens{seen("d", 2)}, Tells: 2})
	p.take(feed(0, 0, 0, 2, 1, 0))
	p.take(feed(0, 0, 2, 2, 1, 0))
	isWatch(t, "the first", p.w, 0, api.Watch{})
	isWatch(t, "the second", p.w, 1, api.Watch{Seen: seens{seen("d", 1)}, Tells: 1})
	w := watcher.New(0)
	if w.Len() != 0 {
		t.Error("P24.1: another watcher has watches")
	}
}

// P24.1: sessions that there aren't: their number is told all the same.
func TestOddSessions(t *testing.T) {
	for _, s := range []int{-1, 3, 4, -200, 1000, math.MinInt + 200, math.MaxInt - 200} {
		p := watching(t, s, sp("", ""))
		p.poll(0, 8, three())
		p.take(feed(s, 0, 0, 0, 0, 0, ev("a", 1)))
		p.poll(0, 8, three())
	}
	for _, s := range []int{math.MinInt, math.MaxInt} {
		w := watcher.New(s)
		w.Watch(sp("", ""), nil)
		w.Poll(0, 8, three())
		w.Take(feed(0, 0, 0, 0, 0, 0, ev("a", 1)))
	}
}

// P24.1, P24.2: each row of a few calls, in all orders.
func TestAllOrders(t *testing.T) {
	calls := []func(p *pair){
		func(p *pair) { p.watch(sp("", "")) },
		func(p *pair) { p.watch(sp("b", "d"), seen("c", 1)) },
		func(p *pair) { p.watch(sp("b", "d"), seen("e", 1)) },
		func(p *pair) { p.poll(0, 3, three()) },
		func(p *pair) { p.poll(1, 3, three()) },
		func(p *pair) { p.cancel(0) },
		func(p *pair) { p.cancel(1) },
		func(p *pair) { p.take(feed(0, 0, 0, 0, 0, 0, ev("c", 1), ev("c", 2), ev("e", 1))) },
		func(p *pair) { p.take(feed(0, 1, 1, 0, 0, 1, ev("c", 2), ev("e", 1))) },
		func(p *pair) { p.take(feed(0, 1, 0, 1, 1, 0)) },
		func(p *pair) { p.take(feed(0, 1, 0, 0, 1, 1)) },
		func(p *pair) { p.take(feed(0, 2, 0, 3, 2, 0, ev("c", 1))) },
	}
	const n = 4
	row := [n]int{}
	for {
		p := both(t, 0)
		for _, i := range row {
			calls[i](p)
		}
		i := 0
		for ; i < n && row[i] == len(calls)-1; i++ {
			row[i] = 0
		}
		if i == n {
			return
		}
		row[i]++
	}
}

// P24.1, P24.2: long rows of calls by a die.
func TestRows(t *testing.T) {
	dice := rand.New(rand.NewSource(24))
	keys := []string{"a", "b", "c", "d", "m", "z", longest, "", tooLong}
	key := func() string { return keys[dice.Intn(len(keys))] }
	told, over := 0, 0
	for range 500 {
		p := both(t, dice.Intn(3))
		for range 150 {
			n := dice.Intn(5) - 1
			x, _ := p.w.Get(n)
			switch what := dice.Intn(20); {
			case what < 2:
				var l seens
				for range dice.Intn(3) {
					l = append(l, seen(key(), dice.Intn(4)-dice.Intn(2)))
				}
				p.watch(sp(key(), key()), l...)
				p.watch(sp("", key()), l...)
			case what < 5:
				p.poll(n, dice.Intn(14)-2, []places{nil, three(), three()[:1], {at(0, key(), key()), at(2, key(), "")}}[dice.Intn(4)])
			case what < 6 && dice.Intn(9) == 0:
				p.cancel(n)
			case what < 8:
				p.take(feed(0, dice.Intn(5)-1, n, x.Tells+dice.Intn(5)-2, 1+dice.Intn(2), dice.Intn(3)))
			default:
				var l events
				for range dice.Intn(6) {
					e := ev(key(), 1)
					if i := slices.IndexFunc(x.Seen, func(y api.Seen) bool { return y.Key == e.Key }); i >= 0 {
						e.Version = x.Seen[i].Version + dice.Intn(3)
					}
					l = append(l, e, ev(e.Key, e.Version+1))
				}
				got, _ := p.take(feed(0, dice.Intn(4)-dice.Intn(2), n, x.Tells, 0, dice.Intn(3), l...))
				told += len(got)
			}
			if y, _ := p.w.Get(n); x.Over == 0 && y.Over == 1 {
				over++
			}
		}
	}
	if told < 10000 || over < 200 {
		t.Errorf("only %d were told, %d compacted: that shows nothing", told, over)
	}
}
