package asker_test

import (
	"slices"
	"testing"

	"estuary/api"
	"estuary/asker"
	"estuary/op"
)

// roomy: with spare room behind, in which something is.
func roomy[T any](l []T, spare T) []T {
	all := make([]T, 0, len(l)+2)
	all = append(all, l...)
	return append(all, spare, spare)[:len(l)]
}

// spoil: all of a list, its spare room too.
func spoil[T any](l []T, with T) {
	l = l[:cap(l)]
	for i := range l {
		l[i] = with
	}
}

var (
	badWrite = api.Write{Key: "spoilt", Value: "spoilt"}
	badPlace = at(-9, -9, -9, "spoilt", "spoilt")
	badRow   = api.Row{Key: "spoilt", Version: -9}
)

func spoilLetters(l letters) {
	for _, x := range l[:cap(l)] {
		spoil(x.Op.Writes, badWrite)
		spoil(x.Places, badPlace)
		spoil(x.Answer.Rows, badRow)
	}
	spoil(l, api.Letter{Kind: -9, Data: "spoilt"})
}

// P23.1: the op that is handed in is neither changed nor kept, and no two letters share its Writes.
func TestMemoryOfOps(t *testing.T) {
	o := batch("e", "f", "g")
	for _, l := range []places{nil, three()} {
		a := asker.New(0)
		a.Take(planned(0, l))
		o.Writes = roomy(batch("e", "f", "g").Writes, badWrite)
		was := slices.Clone(o.Writes[:cap(o.Writes)])
		said, err := a.Ask(o)
		if err != nil || !slices.Equal(o.Writes[:cap(o.Writes)], was) {
			t.Fatalf("P23.1: %v: what was handed in is changed: %+v", err, o)
		}
		spoil(o.Writes, badWrite)
		want := letters{wants(0)}
		if l != nil {
			want = letters{asks(0, 0, 1, batch("e", "f", "g"))}
		}
		isSaid(t, "Ask", said, want...)
		first, _, _ := a.Take(planned(0, three()))
		second, _, _ := a.Take(planned(0, three()))
		spoilLetters(said)
		spoilLetters(first)
		isSaid(t, "the plan, twice", second, asks(0, 0, 1, batch("e", "f", "g")))
		spoilLetters(second)
		for i := range 29 {
			said, _ = a.Tick()
			if i%5 == 4 {
				isSaid(t, "again", said, asks(0, 0, 1, batch("e", "f", "g")), wants(0))
			}
			spoilLetters(said)
		}
		said, _, _ = a.Take(moved(0, 0, 1))
		isSaid(t, "ErrMoved", said, wants(0))
		spoilLetters(said)
		said, _, _ = a.Take(moved(0, 0, 1))
		isSaid(t, "ErrMoved, twice", said, wants(0))
	}
}

// P23.1: neither are the Places, and no two Plans share memory.
func TestMemoryOfPlans(t *testing.T) {
	a := asker.New(0)
	a.Ask(get("e"))
	l := planned(0, roomy(three(), badPlace))
	was := slices.Clone(l.Places[:cap(l.Places)])
	a.Take(l)
	first, second := a.Plan(), a.Plan()
	if !slices.Equal(l.Places[:cap(l.Places)], was) {
		t.Errorf("P23.1: what was handed in is changed: %+v", l.Places)
	}
	spoil(l.Places, badPlace)
	spoil(first, badPlace)
	if !slices.Equal(second, three()) || !slices.Equal(a.Plan(), three()) {
		t.Errorf("P23.1: %+v, %+v", second, a.Plan())
	}
	for range 4 {
		a.Tick()
	}
	said, _ := a.Tick()
	isSaid(t, "again", said, asks(0, 0, 1, get("e")), wants(0))
	if !slices.Equal(l.Places, places{badPlace, badPlace, badPlace}) {
		t.Errorf("P23.1: what was handed in is changed later: %+v", l.Places)
	}
}

// P23.1: neither is the Answer: its Rows are new ones.
func TestMemoryOfAnswers(t *testing.T) {
	a := asker.New(0)
	a.Ask(get("e"))
	rows := []api.Row{{Key: "e", Value: "v", Version: 1}, {Key: "f", Value: "w", Version: 2}}
	l := answers(0, 0, 1, api.Answer{Value: "v", Version: 1, Rows: roomy(rows, badRow)})
	was := slices.Clone(l.Answer.Rows[:cap(l.Answer.Rows)])
	_, answer, over := a.Take(l)
	if !over || !slices.Equal(l.Answer.Rows[:cap(l.Answer.Rows)], was) {
		t.Errorf("P23.1: %v: what was handed in is changed: %+v", over, l.Answer)
	}
	spoil(l.Answer.Rows, badRow)
	if !op.SameAnswer(answer, api.Answer{Value: "v", Version: 1, Rows: rows}) {
		t.Errorf("P23.1: %+v", answer)
	}
	spoil(answer.Rows, api.Row{Key: "twice"})
	if l.Answer.Rows[0] != badRow {
		t.Errorf("P23.1: what was handed in is changed: %+v", l.Answer)
	}
}

// P23.1: askers know nothing of one another.
func TestApart(t *testing.T) {
	a, b := asker.New(0), asker.New(0)
	a.Ask(put("e", "a"))
	a.Take(planned(0, three()))
	isAt(t, b, 0, false)
	said, _ := b.Ask(put("n", "b"))
	isSaid(t, "the other one", said, wants(0))
	said, _, _ = b.Take(planned(0, three()))
	isSaid(t, "the other one's plan", said, asks(0, 2, 1, put("n", "b")))
	a.Take(answers(0, 0, 1, api.Answer{}))
	isAt(t, a, 1, false)
	isAt(t, b, 1, true)
}
