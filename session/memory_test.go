package session_test

import (
	"slices"
	"testing"

	"estuary/api"
	"estuary/op"
	"estuary/session"
)

// roomy: with spare room behind, in which something is.
func roomy[T any](l []T, spare T) []T {
	all := make([]T, 0, len(l)+2)
	all = append(all, l...)
	return append(all, spare, spare)[:len(l)]
}

// spoil: all of a list, its spare room too.
func spoil[T any](l []T, with T) {
	l = l[:cap(l)]
	for i := range l {
		l[i] = with
	}
}

// whole: its spare room too.
func whole[T any](l []T) []T { return slices.Clone(l[:cap(l)]) }

var (
	badWrite = api.Write{Key: "spoilt", Value: "spoilt"}
	badRow   = api.Row{Key: "spoilt", Version: -9}
	badSeen  = seen("spoilt", -9)
	badEvent = ev("spoilt", -9)
	badPlace = at(-9, "spoilt", "spoilt")
)

func spoilLetters(l letters) {
	for _, x := range l[:cap(l)] {
		spoil(x.Op.Writes, badWrite)
		spoil(x.Seen, badSeen)
	}
	spoil(l, api.Letter{Kind: -9, Data: "spoilt"})
}

func spoilCalls(l calls) {
	for _, c := range l[:cap(l)] {
		spoil(c.Op.Writes, badWrite)
		spoil(c.Answer.Rows, badRow)
	}
	spoil(l, api.Call{Session: -9, ID: -9})
}

func rows() []api.Row {
	return []api.Row{{Key: "e", Value: "v", Version: 1}, {Key: "f", Value: "w", Version: 2}}
}

// P25.1: the op that is handed in is neither changed nor kept, and what is said of it isn't the Call's.
func TestMemoryOfOps(t *testing.T) {
	s := session.New(0)
	s.Take(planned(0, three()), 0)
	o := batch("e", "f", "g")
	o.Writes = roomy(o.Writes, badWrite)
	was := whole(o.Writes)
	said, err := s.Ask(o, 3)
	if err != nil || !slices.Equal(whole(o.Writes), was) {
		t.Fatalf("P25.1: %v: what was handed in is changed: %+v", err, whole(o.Writes))
	}
	spoil(o.Writes, badWrite)
	isSaid(t, "a spoilt op", said, asks(0, 0, 1, batch("e", "f", "g")))
	want := api.Call{Session: 0, ID: 1, Op: batch("e", "f", "g"), Asked: 3}
	isCalls(t, "a spoilt op", s, want)
	spoilLetters(said)
	isCalls(t, "spoilt letters", s, want)
	for range 4 {
		s.Tick(4)
	}
	said = s.Tick(5)
	isSaid(t, "a spoilt op", said, asks(0, 0, 1, batch("e", "f", "g")), wants(0))
	spoilLetters(said)
	isCalls(t, "spoilt letters", s, want)
	spoilCalls(s.Calls())
	isSaid(t, "spoilt Calls", s.Take(planned(0, three()), 6), asks(0, 0, 1, batch("e", "f", "g")))
	isCalls(t, "spoilt Calls", s, want)
}

// P25.1: neither is the Answer.
func TestMemoryOfAnswers(t *testing.T) {
	s := session.New(0)
	s.Ask(api.Op{Kind: api.ORange, Key: "e", To: "g"}, 1)
	l := answers(0, 1, 1, api.Answer{Rows: roomy(rows(), badRow)})
	was := whole(l.Answer.Rows)
	s.Take(l, 2)
	if !slices.Equal(whole(l.Answer.Rows), was) {
		t.Fatalf("P25.1: what was handed in is changed: %+v", whole(l.Answer.Rows))
	}
	spoil(l.Answer.Rows, badRow)
	want := api.Call{ID: 1, Op: api.Op{Kind: api.ORange, Key: "e", To: "g"}, Asked: 1, Answered: 2, Answer: api.Answer{Rows: rows()}}
	isCalls(t, "a spoilt Answer", s, want)
	spoil(s.Calls()[0].Answer.Rows, api.Row{Key: "twice"})
	isCalls(t, "spoilt Rows", s, want)
	for _, x := range whole(l.Answer.Rows) {
		if x != badRow {
			t.Fatalf("P25.1: what was handed in is changed later: %+v", x)
		}
	}
}

// P25.1: no two Calls share memory, nor do two of one answer, though the ops and Answers are alike.
func TestMemoryOfCalls(t *testing.T) {
	s := session.New(0)
	var want calls
	o, a := batch("e", "f"), api.Answer{Version: 1, Rows: rows()}
	for id := 1; id <= 3; id++ {
		s.Ask(o, id)
		s.Take(answers(0, 1, id, a), id)
		want = append(want, api.Call{ID: id, Op: batch("e", "f"), Asked: id, Answered: id, Answer: api.Answer{Version: 1, Rows: rows()}})
	}
	first, second := s.Calls(), s.Calls()
	spoil(first[1].Op.Writes, badWrite)
	spoil(first[1].Answer.Rows, badRow)
	for _, i := range []int{0, 2} {
		if !sameCall(first[i], want[i]) {
			t.Errorf("P25.1: another one spoilt it: %+v", first[i])
		}
	}
	spoilCalls(first)
	if !slices.EqualFunc(second, want, sameCall) {
		t.Errorf("P25.1: an earlier answer spoilt it: %+v", second)
	}
	isCalls(t, "spoilt Calls", s, want...)
	if !op.Same(o, batch("e", "f")) || !op.SameAnswer(a, api.Answer{Version: 1, Rows: rows()}) {
		t.Errorf("P25.1: what was handed in is spoilt: %+v, %+v", o, a)
	}
	// what was answered isn't touched by what comes
	third := s.Calls()
	s.Ask(get("a"), 4)
	fourth := s.Calls()
	s.Take(answers(0, 1, 4, api.Answer{Value: "v"}), 5)
	if !slices.EqualFunc(third, want, sameCall) || !sameCall(fourth[3], api.Call{ID: 4, Op: get("a"), Asked: 4}) {
		t.Errorf("P25.1: a later call changed it: %+v, %+v", third, fourth)
	}
}

// P25.1: nor do two Tolds; the events of a feed are neither changed nor kept.
func TestMemoryOfTold(t *testing.T) {
	s := session.New(0)
	s.Watch(sp("", ""), nil)
	l := feed(0, 0, 0, 0, 0, 0)
	l.Events = roomy(events{ev("a", 1), ev("b", 2), ev("b", 1)}, badEvent)
	was := whole(l.Events)
	s.Take(l, 1)
	if !slices.Equal(whole(l.Events), was) {
		t.Fatalf("P25.1: what was handed in is changed: %+v", whole(l.Events))
	}
	spoil(l.Events, badEvent)
	want := tolds{told(0, 0, ev("a", 1)), told(0, 0, ev("b", 1))}
	first, second := s.Told(), s.Told()
	spoil(first, told(-9, -9, badEvent))
	if !slices.Equal(second, want) {
		t.Errorf("P25.1: an earlier answer spoilt it: %+v", second)
	}
	isTold(t, "spoilt Tolds", s, want...)
	s.Take(feed(0, 0, 0, 2, 0, 0, ev("b", 2)), 2)
	if !slices.Equal(second, want) {
		t.Errorf("P25.1: a later feed changed it: %+v", second)
	}
	isTold(t, "a later feed", s, append(want, told(0, 0, ev("b", 2)))...)
}

// P25.1: tokens, plans, letters and watches are nobody else's either.
func TestMemoryOfWatches(t *testing.T) {
	s := session.New(0)
	all := seens{seen("a", 1), seen("e", 2), seen("n", 3)}
	l := roomy(slices.Clone(all), badSeen)
	was := whole(l)
	s.Watch(sp("", ""), l)
	plan := roomy(three(), badPlace)
	now := whole(plan)
	s.Take(planned(0, plan), 1)
	if !slices.Equal(whole(l), was) || !slices.Equal(whole(plan), now) {
		t.Fatalf("P25.1: what was handed in is changed: %+v, %+v", whole(l), whole(plan))
	}
	spoil(l, badSeen)
	spoil(plan, badPlace)
	want := letters{poll(0, 1, 0, 1, 0, "", "d", all[:1]...), poll(0, 0, 0, 1, 0, "d", "m", all[1:2]...), poll(0, 2, 0, 1, 0, "m", "", all[2:]...)}
	first, _ := s.Poll(0, 1)
	second, _ := s.Poll(0, 1)
	isSaid(t, "spoilt ones", first, want...)
	spoilLetters(first)
	isSaid(t, "the second", second, want...)
	x, _ := s.Get(0)
	spoil(x.Seen, badSeen)
	if x, ok := s.Get(0); !ok || !sameWatch(x, api.Watch{Seen: all}) {
		t.Errorf("P25.1: Get: %+v, %v", x, ok)
	}
	// what wants a plan is said anew each time
	wish := func() letters { return s.Take(feed(0, 0, 0, 0, 2, 0), 1) }
	spoilLetters(wish())
	isSaid(t, "not here, twice", wish(), wants(0))
	b := session.New(1)
	b.Watch(sp("", ""), nil)
	said, _ := b.Poll(0, 1)
	spoilLetters(said)
	said, _ = b.Poll(0, 1)
	isSaid(t, "nobody is known, twice", said, wants(1))
}

// P25.1: sessions know nothing of one another, though they have one id.
func TestTwoSessions(t *testing.T) {
	a, b := session.New(0), session.New(0)
	a.Watch(sp("", ""), nil)
	a.Take(planned(0, three()), 0)
	a.Take(feed(0, 0, 0, 0, 0, 0, ev("a", 1)), 1)
	a.Ask(put("e", "a"), 2)
	if b.Busy() || b.Watches() != 0 {
		t.Errorf("P25.1: Busy %v, Watches %d", b.Busy(), b.Watches())
	}
	isCalls(t, "the other one", b)
	isTold(t, "the other one", b)
	said, _ := b.Ask(put("n", "b"), 7)
	isSaid(t, "the other one knows no plan", said, wants(0))
	a.Take(answers(0, 0, 1, api.Answer{Version: 1}), 8)
	isCalls(t, "the other one", b, api.Call{ID: 1, Op: put("n", "b"), Asked: 7})
}
