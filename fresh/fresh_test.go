package fresh_test

import (
	"slices"
	"testing"

	"estuary/api"
	"estuary/fresh"
	"estuary/op"
	"estuary/shard"
)

// rows: with room for one more behind them.
func rows(n int) []api.Row { return slices.Grow(make([]api.Row, n), 1) }

func done(session, id, n int) api.Done {
	return api.Done{Session: session, ID: id, Answer: api.Answer{Code: 14, Value: "v", Version: id, Rows: rows(n)}}
}

func whole() api.Shard {
	return api.Shard{ID: 7, Epoch: 3, Span: api.Span{From: "b"}, Frozen: true,
		Cells:  []api.Cell{{Key: "b", Version: 2, Del: true, Floor: 1}, {Key: "c", Value: "v", Version: 1}},
		Events: []api.Event{{Key: "c", Version: 1, Value: "v"}, {Key: "b", Version: 2, Del: true}},
		Done:   []api.Done{done(0, 5, 2), done(2, 1, 0), done(1, -1, 3)}}
}

// spoil: all of a list, the spare room, too.
func spoil[T any](l []T, by T) {
	l = l[:cap(l)]
	for i := range l {
		l[i] = by
	}
}

// A copy is the same, and nothing that is done with it touches what it is of.
func TestShard(t *testing.T) {
	s := whole()
	got := fresh.Shard(s)
	if !shard.Same(got, whole()) {
		t.Fatalf("%#v", got)
	}
	for _, d := range got.Done {
		spoil(d.Answer.Rows, api.Row{Key: "spoilt"})
	}
	spoil(got.Cells, api.Cell{Key: "spoilt"})
	spoil(got.Events, api.Event{Key: "spoilt"})
	spoil(got.Done, done(-1, -1, 0))
	if !shard.Same(s, whole()) {
		t.Errorf("what it is of: %#v", s)
	}
	if got := fresh.Shard(api.Shard{}); !shard.Same(got, api.Shard{}) {
		t.Errorf("of none: %#v", got)
	}
}

// One list behind the other, each with Rows of its own, also where they shared them.
func TestDone(t *testing.T) {
	one := done(1, 2, 2)
	a, b := []api.Done{done(0, 5, 1), one}, []api.Done{one}
	got := fresh.Done(a, nil, b)
	if !slices.EqualFunc(got, []api.Done{a[0], one, one}, func(x, y api.Done) bool {
		return x.Session == y.Session && x.ID == y.ID && op.SameAnswer(x.Answer, y.Answer)
	}) {
		t.Fatalf("%#v", got)
	}
	spoil(got[1].Answer.Rows, api.Row{Key: "spoilt"})
	if !op.SameAnswer(got[2].Answer, done(1, 2, 2).Answer) || !op.SameAnswer(one.Answer, done(1, 2, 2).Answer) {
		t.Errorf("two share Rows: %#v, %#v", got, one)
	}
	if got := fresh.Done(); len(got) != 0 {
		t.Errorf("of none: %#v", got)
	}
}

func TestAnswer(t *testing.T) {
	a := done(0, 1, 2).Answer
	got := fresh.Answer(a)
	if !op.SameAnswer(got, a) {
		t.Errorf("%#v, not %#v", got, a)
	}
	spoil(got.Rows, api.Row{Key: "spoilt"})
	if !op.SameAnswer(a, done(0, 1, 2).Answer) {
		t.Errorf("what it is of: %#v", a)
	}
}

func TestOp(t *testing.T) {
	o := api.Op{Kind: api.OBatch, Key: "k", To: "t", Value: "v", Version: 3, Writes: slices.Grow([]api.Write{{Key: "a", Value: "v"}, {Key: "b", Del: true}}, 1)}
	was := []api.Write{{Key: "a", Value: "v"}, {Key: "b", Del: true}}
	got := fresh.Op(o)
	if !op.Same(got, o) {
		t.Errorf("%#v, not %#v", got, o)
	}
	spoil(got.Writes, api.Write{Key: "spoilt"})
	if !slices.Equal(o.Writes, was) || o.Writes[:3][2] != (api.Write{}) {
		t.Errorf("what it is of: %#v", o.Writes[:3])
	}
	if got := fresh.Op(api.Op{}); !op.Same(got, api.Op{}) {
		t.Errorf("of none: %#v", got)
	}
}
