package watcher_test

import (
	"slices"
	"testing"

	"estuary/api"
	"estuary/watcher"
)

// roomy: with spare room behind, in which something is.
func roomy[T any](l []T, spare T) []T {
	all := make([]T, 0, len(l)+2)
	all = append(all, l...)
	return append(all, spare, spare)[:len(l)]
}

// spoil: all of a list, its spare room too.
func spoil[T any](l []T, with T) {
	l = l[:cap(l)]
	for i := range l {
		l[i] = with
	}
}

// whole: its spare room too.
func whole[T any](l []T) []T { return slices.Clone(l[:cap(l)]) }

var (
	badSeen  = seen("spoilt", -9)
	badPlace = at(-9, "spoilt", "spoilt")
	badEvent = ev("spoilt", -9)
)

func spoilLetters(l letters) {
	for _, x := range l[:cap(l)] {
		spoil(x.Seen, badSeen)
	}
	spoil(l, api.Letter{Kind: -9, Data: "spoilt"})
}

// P24.1: the token that is handed in is neither changed nor kept.
func TestMemoryOfTokens(t *testing.T) {
	w := watcher.New(0)
	l := roomy(seens{seen("a", 1), seen("e", 2), seen("n", 3)}, badSeen)
	was := whole(l)
	for n := range 2 { // of one token there may be two watches
		if _, err := w.Watch(sp("", ""), l); err != nil {
			t.Fatal(err)
		}
		w.Take(feed(0, 0, n, 0, 0, 0, ev("e", 3), ev("b", 1), ev("z", 1)))
	}
	if !slices.Equal(whole(l), was) {
		t.Fatalf("P24.1: what was handed in is changed: %+v", whole(l))
	}
	spoil(l, badSeen)
	want := seens{seen("a", 1), seen("b", 1), seen("e", 3), seen("n", 3), seen("z", 1)}
	for n := range 2 {
		isWatch(t, "a spoilt token", w, n, api.Watch{Seen: want, Tells: 3})
	}
	// also where nothing was told since
	l = seens{seen("a", 1)}
	w.Watch(sp("", ""), l)
	spoil(l, badSeen)
	isWatch(t, "a spoilt token", w, 2, api.Watch{Seen: seens{seen("a", 1)}})
}

// P24.2: what Get answers is nobody else's.
func TestMemoryOfWatches(t *testing.T) {
	w := watcher.New(0)
	w.Watch(sp("", ""), seens{seen("a", 1), seen("b", 1)})
	first, _ := w.Get(0)
	second, _ := w.Get(0)
	spoil(first.Seen, badSeen)
	want := api.Watch{Seen: seens{seen("a", 1), seen("b", 1)}}
	isWatch(t, "a spoilt one", w, 0, want)
	w.Take(feed(0, 0, 0, 0, 0, 0, ev("a", 2), ev("b", 2), ev("c", 1)))
	if !sameWatch(second, want) {
		t.Errorf("P24.2: a later feed changed it: %+v", second)
	}
	third, _ := w.Get(0)
	spoil(third.Seen, badSeen)
	isWatch(t, "a spoilt one", w, 0, api.Watch{Seen: seens{seen("a", 2), seen("b", 2), seen("c", 1)}, Tells: 3})
	w.Cancel(0)
	third, _ = w.Get(0)
	spoil(third.Seen, badSeen)
	isWatch(t, "a cancelled one", w, 0, api.Watch{Seen: seens{seen("a", 2), seen("b", 2), seen("c", 1)}, Tells: 3, Over: 2})
}

// P24.1: the plan is neither changed nor kept, and no two letters share their Seen.
func TestMemoryOfPolls(t *testing.T) {
	w := watcher.New(0)
	w.Watch(sp("c", "x"), seens{seen("c", 1), seen("e", 2), seen("n", 3)})
	plan := roomy(append(three(), at(1, "", ""), at(2, "", "")), badPlace)
	was := whole(plan)
	first, _ := w.Poll(0, 1, plan)
	second, _ := w.Poll(0, 1, plan)
	if !slices.Equal(whole(plan), was) {
		t.Fatalf("P24.1: what was handed in is changed: %+v", whole(plan))
	}
	spoil(plan, badPlace)
	all := seens{seen("c", 1), seen("e", 2), seen("n", 3)}
	want := letters{poll(0, 1, 0, 1, 0, "c", "d", all[:1]...), poll(0, 0, 0, 1, 0, "d", "m", all[1:2]...), poll(0, 2, 0, 1, 0, "m", "x", all[2:]...), poll(0, 1, 0, 1, 0, "c", "x", all...), poll(0, 2, 0, 1, 0, "c", "x", all...)}
	isSaid(t, "a spoilt plan", first, want...)
	for i := range first {
		spoil(first[i].Seen, badSeen)
		isSaid(t, "a spoilt one ahead of it", first[i+1:], want[i+1:]...)
	}
	spoilLetters(first)
	isSaid(t, "the second", second, want...)
	spoilLetters(second)
	isWatch(t, "spoilt letters", w, 0, api.Watch{Span: sp("c", "x"), Seen: all})
	third, _ := w.Poll(0, 1, three())
	w.Take(feed(0, 0, 0, 0, 0, 0, ev("c", 2), ev("e", 3), ev("n", 4)))
	isSaid(t, "a later feed", third, want[:3]...)
}

// P24.2: the events are neither changed nor kept, and what was told is nobody else's.
func TestMemoryOfFeeds(t *testing.T) {
	w := watcher.New(0)
	w.Watch(sp("", ""), nil)
	w.Watch(sp("", ""), nil)
	l := feed(0, 0, 0, 0, 0, 0, roomy(events{ev("b", 1), ev("a", 2), ev("a", 1)}, badEvent)...)
	l.Events = roomy(l.Events, ev("a", 2)) // behind its end there is nothing
	was := whole(l.Events)
	first, _ := w.Take(l)
	l.N[0] = 1
	second, _ := w.Take(l)
	if !slices.Equal(whole(l.Events), was) {
		t.Fatalf("P24.2: what was handed in is changed: %+v", whole(l.Events))
	}
	spoil(first, badEvent)
	if !slices.Equal(whole(l.Events), was) {
		t.Fatalf("P24.2: what was told is what was handed in: %+v", whole(l.Events))
	}
	spoil(l.Events, badEvent)
	isTold(t, "spoilt events", second, ev("b", 1), ev("a", 1))
	for n := range 2 {
		isWatch(t, "spoilt events", w, n, api.Watch{Seen: seens{seen("a", 1), seen("b", 1)}, Tells: 2})
	}
	// all of it was told, so it might be handed on as it is
	l = feed(0, 0, 0, 2, 0, 0, ev("a", 2), ev("a", 3))
	first, _ = w.Take(l)
	spoil(first, badEvent)
	isTold(t, "what was handed in", l.Events, ev("a", 2), ev("a", 3))
}

// P24.1: watchers know nothing of one another.
func TestTwoWatchers(t *testing.T) {
	a, b := watcher.New(0), watcher.New(0)
	a.Watch(sp("", ""), nil)
	a.Take(feed(0, 0, 0, 0, 0, 0, ev("a", 1)))
	if b.Len() != 0 {
		t.Fatalf("P24.1: Len %d", b.Len())
	}
	b.Watch(sp("b", ""), nil)
	a.Cancel(0)
	isWatch(t, "the other one", b, 0, api.Watch{Span: sp("b", "")})
}
