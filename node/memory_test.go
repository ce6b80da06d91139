package node_test

import (
	"fmt"
	"reflect"
	"slices"
	"testing"

	"estuary/api"
	"estuary/letter"
	"estuary/node"
	"estuary/shard"
)

// spoil: all of a list, the spare room too.
func spoil[T any](l []T, by T) {
	l = l[:cap(l)]
	for i := range l {
		l[i] = by
	}
}

// roomy: a copy of a list with two of these as spare room behind it.
func roomy[T any](l []T, by T) []T {
	return append(slices.Clone(l), by, by)[:len(l)]
}

// roomyShard: with spare room behind each list, down to the Rows.
func roomyShard(s api.Shard) api.Shard {
	s.Cells, s.Events, s.Done = roomy(s.Cells, api.Cell{Key: "spare"}), roomy(s.Events, api.Event{Key: "spare"}), roomy(s.Done, api.Done{ID: 7})
	for i, d := range s.Done {
		s.Done[i].Answer.Rows = roomy(d.Answer.Rows, api.Row{Key: "spare"})
	}
	return s
}

// copyOf: down to the Rows, the spare room too.
func copyOf(s api.Shard) api.Shard {
	s.Cells, s.Events, s.Done = slices.Clone(s.Cells[:cap(s.Cells)]), slices.Clone(s.Events[:cap(s.Events)]), slices.Clone(s.Done[:cap(s.Done)])
	for i, d := range s.Done {
		s.Done[i].Answer.Rows = slices.Clone(d.Answer.Rows[:cap(d.Answer.Rows)])
	}
	return s
}

func spoilShard(s api.Shard) {
	spoil(s.Cells, api.Cell{Key: "spoilt"})
	spoil(s.Events, api.Event{Key: "spoilt"})
	for _, d := range s.Done {
		spoil(d.Answer.Rows, api.Row{Key: "spoilt"})
	}
	spoil(s.Done, api.Done{Session: -9})
}

// roomyLetter: likewise; copyLetter has the spare room, too.
func roomyLetter(l api.Letter) api.Letter {
	l.Op.Writes, l.Answer.Rows = roomy(l.Op.Writes, api.Write{Key: "spare"}), roomy(l.Answer.Rows, api.Row{Key: "spare"})
	l.Seen, l.Events, l.Places = roomy(l.Seen, api.Seen{Key: "spare"}), roomy(l.Events, api.Event{Key: "spare"}), roomy(l.Places, api.Place{ID: 7})
	return l
}

func copyLetter(l api.Letter) api.Letter {
	l.Op.Writes, l.Answer.Rows = slices.Clone(l.Op.Writes[:cap(l.Op.Writes)]), slices.Clone(l.Answer.Rows[:cap(l.Answer.Rows)])
	l.Seen, l.Events, l.Places = slices.Clone(l.Seen[:cap(l.Seen)]), slices.Clone(l.Events[:cap(l.Events)]), slices.Clone(l.Places[:cap(l.Places)])
	return l
}

func spoilLetter(l api.Letter) {
	spoil(l.Op.Writes, api.Write{Key: "spoilt"})
	spoil(l.Answer.Rows, api.Row{Key: "spoilt"})
	spoil(l.Seen, api.Seen{Key: "spoilt"})
	spoil(l.Events, api.Event{Key: "spoilt"})
	spoil(l.Places, api.Place{ID: -9})
}

// P19.1: what New is handed in is neither changed nor kept.
func TestFirstHandedIn(t *testing.T) {
	for _, first := range append(starts(), shards{none, stock(1, 3, sp("", "m")), none, frozen(stock(2, 5, sp("m", "")))}) {
		var given, was shards
		for _, s := range first {
			s = roomyShard(s)
			given, was = append(given, s), append(was, copyOf(s))
		}
		given = roomy(given, shard.New(77, 1, all))
		was = append(was, shard.New(77, 1, all), shard.New(77, 1, all))
		n := node.New(1, given)
		var now shards
		for _, s := range given[:len(was)] {
			now = append(now, copyOf(s))
		}
		if !slices.EqualFunc(now, was, shard.Same) {
			t.Errorf("P19.1: what was handed in is changed: %+v, not %+v", now, was)
		}
		for _, s := range given {
			spoilShard(s)
		}
		spoil(given, none)
		if m := newModel(1, first); !sameHold(n.Hold(), m.h) {
			t.Errorf("P19.1: what was handed in is kept: %s", say(n.Hold()))
		}
	}
}

// P19.2: what Take is handed in is neither changed nor kept, whatever is done with it behind it.
func TestLettersHandedIn(t *testing.T) {
	for _, first := range starts() {
		n, m := both(t, 1, first)
		for _, l := range letters() {
			given := roomyLetter(l)
			was := copyLetter(given)
			n.Take(given)
			if now := copyLetter(given); !reflect.DeepEqual(now, was) {
				t.Fatalf("P19.2: what was handed in is changed: %+v, not %+v", now, was)
			}
			spoilLetter(given)
			m.take(l)
			same(t, n, m, l)
		}
		synced(t, n, m, "all")
		crash(t, n, m, 0)
	}
}

// P19.1: what goes is new memory: no two answers share any, nothing that is done with them touches what is there, and what comes later touches none of them.
func TestGoes(t *testing.T) {
	asks := []api.Letter{asked(1, 80, between("a", "")), asked(1, 80, between("a", "")), asked(2, 9, get("a")), asked(2, 9, put("a", "v")), poll(all, []int{1, 8}, api.Seen{Key: "a", Version: 1}, api.Seen{Key: "c", Version: 1}, api.Seen{Key: "m", Version: 1}), poll(all, []int{1, 8}, api.Seen{Key: "a", Version: 1}, api.Seen{Key: "c", Version: 1}, api.Seen{Key: "m", Version: 1}), asked(0, 90, batch("v", "a", "b")), poll(sp("d", ""), []int{1, 8}, api.Seen{Key: "m", Version: 1})}
	n, m := both(t, 1, shards{stock(1, 1, all)})
	var went [][]api.Letter
	var was []string
	for range 3 {
		for _, l := range asks {
			take(t, n, m, l)
		}
		got := synced(t, n, m, "asks")
		if len(got) != len(asks) || len(got[0].Answer.Rows) < 2 || len(got[2].Answer.Rows) != 2 || len(got[4].Events) < 2 {
			t.Fatalf("P19.1: %+v", got)
		}
		went, was = append(went, got), append(was, fmt.Sprint(got))
	}
	for i, l := range went {
		if fmt.Sprint(l) != was[i] {
			t.Errorf("P19.1: what went is changed by what came later: %+v", l)
		}
	}
	for i := range went[0] {
		before := fmt.Sprint(went[0][:i], went[0][i+1:], went[1:])
		spoilLetter(went[0][i])
		if after := fmt.Sprint(went[0][:i], went[0][i+1:], went[1:]); after != before {
			t.Errorf("P19.1: answer %d shares memory with another one", i)
		}
	}
	for _, l := range went {
		for _, x := range l {
			spoilLetter(x)
		}
		spoil(l, api.Letter{Kind: -9})
	}
	same(t, n, m, "spoilt answers")
	for _, l := range asks {
		take(t, n, m, l)
	}
	synced(t, n, m, "spoilt answers")
	crash(t, n, m, 0)
}

// P19.1: two nodes go on apart.
func TestApart(t *testing.T) {
	for _, l := range letters() {
		one, m := both(t, 1, pair())
		two, o := both(t, 1, pair())
		take(t, one, m, l)
		if same(t, two, o, l, " of another one"); len(two.Sync()) > 0 {
			t.Errorf("P19.1: %+v of another one is answered", l)
		}
	}
}

// P19.2: whatever is asked for, however great its numbers are, comes back at once; what isn't letter's Is isn't answered, however long it is.
func TestHuge(t *testing.T) {
	const many = 1 << 20
	n, m := both(t, 1, pair())
	for kind := range api.LCut + 2 {
		for _, most := range []int{api.MaxRev, api.MaxRev + 1, 1 << 62, -1 << 62} {
			l := to(kind, most, most, most, most, most)
			l.Span = sp("c", "")
			take(t, n, m, l)
			take(t, n, m, to(kind, 1, 3, most, most, most))
			take(t, n, m, to(kind, 2, 5, most))
			ask := from(api.Sessions, l)
			ask.Op = get("a")
			take(t, n, m, ask)
		}
		for _, l := range []api.Letter{{Seen: make([]api.Seen, many)}, {Events: make([]api.Event, many)}, {Places: make([]api.Place, many)}, {Data: string(make([]byte, many))}, {Op: api.Op{Kind: api.OBatch, Writes: make([]api.Write, many)}}, {Answer: api.Answer{Rows: make([]api.Row, many)}}} {
			l.Kind, l.From, l.To = kind, api.Sessions, 1
			if letter.Is(l) {
				t.Fatalf("%d is Is", kind)
			}
			was := n.Waits()
			if n.Take(l); n.Waits() != was {
				t.Errorf("P19.2: kind %d is answered", kind)
			}
		}
	}
	synced(t, n, m, "huge")
}
