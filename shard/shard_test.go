package shard_test

import (
	"math"
	"slices"
	"strconv"
	"strings"
	"testing"

	"estuary/api"
	"estuary/op"
	"estuary/shard"
)

type events = []api.Event

type cells = []api.Cell

type dones = []api.Done

type seen = []api.Seen

var (
	longest = strings.Repeat("k", api.MaxKey)
	tooLong = strings.Repeat("k", api.MaxKey+1)
	fullest = strings.Repeat("v", api.MaxValue)
	tooMuch = strings.Repeat("v", api.MaxValue+1)
	mostAsk = strings.Repeat("v", 40) // bytes that may be asked for
	all     = api.Span{}
)

func sp(from, to string) api.Span { return api.Span{From: from, To: to} }

// is: a cell that was put.
func is(key, value string, version, floor int) api.Cell {
	return api.Cell{Key: key, Value: value, Version: version, Floor: floor}
}

// gone: a cell that was deleted.
func gone(key string, version, floor int) api.Cell {
	return api.Cell{Key: key, Version: version, Del: true, Floor: floor}
}

// was, wasDel: events.
func was(key string, version int, value string) api.Event {
	return api.Event{Key: key, Version: version, Value: value}
}

func wasDel(key string, version int) api.Event {
	return api.Event{Key: key, Version: version, Del: true}
}

func saw(key string, version int) api.Seen { return api.Seen{Key: key, Version: version} }

// did: a request and what it was answered.
func did(session, id int, a api.Answer) api.Done {
	return api.Done{Session: session, ID: id, Answer: a}
}

// Answers: by an error's number and the version that there is; by a version; by rows.
func err(why api.Errno, version int) api.Answer {
	return api.Answer{Code: int(why), Version: version}
}

func at(version int) api.Answer { return api.Answer{Version: version} }

func rows(l ...api.Row) api.Answer { return api.Answer{Rows: l} }

func row(key, value string, version int) api.Row {
	return api.Row{Key: key, Value: value, Version: version}
}

// Ops.
func get(key string) api.Op { return api.Op{Kind: api.OGet, Key: key} }

func put(key, value string) api.Op { return api.Op{Kind: api.OPut, Key: key, Value: value} }

func del(key string) api.Op { return api.Op{Kind: api.ODel, Key: key} }

func cas(key, value string, version int) api.Op {
	return api.Op{Kind: api.OCas, Key: key, Value: value, Version: version}
}

func within(from, to string) api.Op { return api.Op{Kind: api.ORange, Key: from, To: to} }

func batch(l ...api.Write) api.Op { return api.Op{Kind: api.OBatch, Writes: l} }

func compact(key string, n int) api.Op {
	return api.Op{Kind: api.OCompact, Key: key, Version: n}
}

func w(key, value string) api.Write { return api.Write{Key: key, Value: value} }

func wDel(key string) api.Write { return api.Write{Key: key, Del: true} }

// bay: a shard of six keys: put, deleted, compacted, spent, nearly spent, spent and deleted.
func bay() api.Shard {
	return api.Shard{ID: 7, Epoch: 3, Span: sp("b", "p"),
		Cells:  cells{is("b", "x", 2, 0), gone("d", 4, 2), is("g", "y", 7, 7), is("k", fullest, api.MaxRev, api.MaxRev), is("m", "z", api.MaxRev-1, api.MaxRev-1), gone("o", api.MaxRev, api.MaxRev)},
		Events: events{was("d", 3, "v"), was("b", 1, "w"), wasDel("d", 4), was("b", 2, "x")},
		Done:   dones{did(0, 3, at(2)), did(2, 5, rows(row("b", "w", 1), row("d", "v", 3)))}}
}

// of: bay with another Span.
func of(s api.Span) api.Shard {
	b := bay()
	b.Span = s
	return b
}

// full: a shard of four keys, where the last one may be deleted, with so many events.
func full(n int) api.Shard {
	s := shard.New(1, 1, all)
	for i := range n {
		e := was([]string{"a", "b", "a", "c"}[i%4], 0, "v"+strconv.Itoa(i))
		if i%8 == 7 {
			e = wasDel("c", 0)
		}
		e.Version = cellOf(s, e.Key).Version + 1
		s = turned(s, e)
	}
	return s
}

// wide: a shard of so many keys there, and some that are deleted, without events.
func wide(n int) api.Shard {
	s := shard.New(2, 1, sp("a", "n"))
	for i := range n {
		k := "c" + string([]byte{byte('a' + i)})
		s.Cells = append(s.Cells, is(k, "v", 2, 2), gone(k+"z", 1, 1))
	}
	return s
}

func frozen(s api.Shard) api.Shard {
	s.Frozen = true
	return s
}

// shards: all Is.
func shards() []api.Shard {
	l := []api.Shard{bay(), of(all), of(sp("b", "")), of(sp("", "p")), frozen(bay()), shard.New(1, 1, all), shard.New(api.MaxRev, api.MaxEpoch, sp("d", "d\x00")), wide(15), wide(16), wide(17)}
	for n := 19; n <= 30; n++ {
		l = append(l, full(n))
	}
	return l
}

// copies: down to the Rows.
func copies(s api.Shard) api.Shard {
	s.Cells, s.Events, s.Done = slices.Clone(s.Cells), slices.Clone(s.Events), slices.Clone(s.Done)
	for i := range s.Done {
		s.Done[i].Answer.Rows = slices.Clone(s.Done[i].Answer.Rows)
	}
	return s
}

// same: the document's words once more, in another way than the program's: as texts.
func same(a, b api.Shard) bool { return text(a) == text(b) }

func text(s api.Shard) string {
	q, n := strconv.Quote, func(i int) string { return strconv.Itoa(i) + "," }
	b := n(s.ID) + n(s.Epoch) + q(s.Span.From) + q(s.Span.To) + strconv.FormatBool(s.Frozen)
	for _, c := range s.Cells {
		b += "\ncell " + q(c.Key) + q(c.Value) + n(c.Version) + strconv.FormatBool(c.Del) + n(c.Floor)
	}
	for _, e := range s.Events {
		b += "\nevent " + q(e.Key) + n(e.Version) + q(e.Value) + strconv.FormatBool(e.Del)
	}
	for _, d := range s.Done {
		b += "\ndone " + n(d.Session) + n(d.ID) + n(d.Answer.Code) + q(d.Answer.Value) + n(d.Answer.Version)
		for _, r := range d.Answer.Rows {
			b += "row " + q(r.Key) + q(r.Value) + n(r.Version)
		}
	}
	return b
}

// cellOf: the document's words once more: a new one has Version 0.
func cellOf(s api.Shard, key string) api.Cell {
	for _, c := range s.Cells {
		if c.Key == key {
			return c
		}
	}
	return api.Cell{Key: key}
}

// isIn: likewise.
func isIn(s api.Span, k string) bool { return k >= s.From && (s.To == "" || k < s.To) }

// turned: a shard that is Is behind these events, of which the last 24 stay: a Key's Floor is its Version less its events.
func turned(s api.Shard, l ...api.Event) api.Shard {
	s = copies(s)
	for _, e := range l {
		s.Cells = slices.DeleteFunc(s.Cells, func(c api.Cell) bool { return c.Key == e.Key })
		s.Cells = append(s.Cells, api.Cell{Key: e.Key, Value: e.Value, Version: e.Version, Del: e.Del})
		s.Events = append(s.Events, e)
	}
	slices.SortFunc(s.Cells, func(x, y api.Cell) int { return strings.Compare(x.Key, y.Key) })
	return kept(s, 24)
}

// kept: a shard that is Is of which the last n events stay.
func kept(s api.Shard, n int) api.Shard {
	s = copies(s)
	s.Events = s.Events[max(0, len(s.Events)-n):]
	for i, c := range s.Cells {
		s.Cells[i].Floor = c.Version
		for _, e := range s.Events {
			if e.Key == c.Key {
				s.Cells[i].Floor--
			}
		}
	}
	return s
}

// next: the event of a write, or why there is none.
func next(s api.Shard, x api.Write) (api.Event, api.Errno) {
	c := cellOf(s, x.Key)
	switch {
	case x.Del && (c.Version == 0 || c.Del):
		return api.Event{}, api.ErrNone
	case len(x.Value) > 12:
		return api.Event{}, api.ErrLarge
	case c.Version == 1000000000000:
		return api.Event{}, api.ErrSpent
	}
	return api.Event{Key: x.Key, Version: c.Version + 1, Value: x.Value, Del: x.Del}, api.OK
}

// wantDo: the document's words once more, of a shard that is Is.
func wantDo(s api.Shard, o api.Op) (api.Shard, api.Answer) {
	c := cellOf(s, o.Key)
	switch {
	case !op.Is(o):
		return s, err(api.ErrForm, 0)
	case o.Kind == api.OGet && (c.Version == 0 || c.Del):
		return s, err(api.ErrNone, c.Version)
	case o.Kind == api.OGet:
		return s, api.Answer{Value: c.Value, Version: c.Version}
	case o.Kind == api.OCas && c.Version != o.Version:
		return s, err(api.ErrClash, c.Version)
	case o.Kind == api.ORange:
		return s, wantRows(s, sp(o.Key, o.To))
	case o.Kind == api.OBatch:
		return wantBatch(s, o.Writes)
	case o.Kind == api.OCompact:
		return kept(s, o.Version), at(max(0, len(s.Events)-o.Version))
	}
	e, why := next(s, api.Write{Key: o.Key, Value: o.Value, Del: o.Kind == api.ODel})
	if why != api.OK {
		return s, err(why, c.Version)
	}
	return turned(s, e), at(c.Version + 1)
}

func wantRows(s api.Shard, p api.Span) api.Answer {
	if p.From < s.Span.From || s.Span.To != "" && (p.To == "" || p.To > s.Span.To) {
		return err(api.ErrSplit, 0)
	}
	var l []api.Row
	for _, c := range s.Cells {
		if isIn(p, c.Key) && !c.Del {
			l = append(l, row(c.Key, c.Value, c.Version))
		}
	}
	return rows(l[:min(len(l), 16)]...)
}

func wantBatch(s api.Shard, l []api.Write) (api.Shard, api.Answer) {
	for _, x := range l {
		if !isIn(s.Span, x.Key) {
			return s, err(api.ErrSplit, 0)
		}
	}
	var changes events
	for _, x := range l {
		e, why := next(s, x)
		switch {
		case why == api.OK:
			changes = append(changes, e)
		case why != api.ErrNone || !x.Del:
			return s, err(why, 0)
		}
	}
	return turned(s, changes...), at(len(changes))
}

// ops: good and wrong ones.
func ops() []api.Op {
	l := []api.Op{{}, {Kind: -1, Key: "b"}, {Kind: 8, Key: "b"}, {Kind: math.MaxInt, Key: "b"}, batch(), {Kind: api.OBatch, Key: "b", Writes: []api.Write{w("b", "n")}}, batch(w("d", "n"), w("b", "n")), batch(w("b", "n"), w("b", "n")), batch(w("b", "n"), w("c", "n"), w("d", "n"), w("e", "n"), w("f", "n")), batch(api.Write{Key: "b", Value: "v", Del: true})}
	keys := []string{"a", "b", "b\x00", "c", "ca", "cq", "cqz", "d", "g", "k", "m", "o", longest}
	for i, k := range keys {
		l = append(l, get(k), del(k), compact(k, -1), compact(k, 0), compact(k, 1), compact(k, 3), compact(k, 4), compact(k, 23), compact(k, 24), compact(k, 25), within(k, ""), within(k, "p"), within(k, "p\x00"), within(k, "d"), within(k, k), within(k, tooLong))
		for _, value := range []string{"", "n", "x", fullest, tooMuch, mostAsk, mostAsk + "v"} {
			l = append(l, put(k, value), batch(w(k, value)))
			for _, version := range []int{-1, 0, 1, 2, 3, 4, 7, 12, api.MaxRev - 1, api.MaxRev, api.MaxRev + 1} {
				l = append(l, cas(k, value, version))
			}
		}
		l = append(l, api.Op{Kind: api.OGet, Key: k, Value: "v"}, api.Op{Kind: api.OPut, Key: k, Version: 1}, api.Op{Kind: api.ODel, Key: k, To: "z"}, api.Op{Kind: api.ORange, Key: k, Writes: []api.Write{w(k, "")}})
		for _, k2 := range keys[i+1:] {
			l = append(l, batch(w(k, "n"), w(k2, "")), batch(wDel(k), w(k2, "n")), batch(w(k, "n"), wDel(k2)), batch(wDel(k), wDel(k2)), batch(w(k, "n"), w(k2, tooMuch)), batch(w(k, tooMuch), wDel(k2)))
		}
	}
	return append(l, get(""), get(tooLong), put("", "v"), put(tooLong, "v"), del(""), cas("", "v", 0), within("", "z"), compact("", 1), batch(w("", "v")), batch(w(tooLong, "v")),
		batch(w("b", "1"), w("c", "2"), w("d", "3"), w("e", "4")), batch(wDel("b"), w("c", "2"), wDel("ca"), w("d", "4")), batch(w("a", "1"), wDel("b"), wDel("c"), w("d", "2")), batch(w("b", "1"), wDel("d"), w("g", "2"), wDel("k")), batch(wDel("c"), wDel("d"), wDel("e"), wDel("o")))
}

// P15.1
func TestNew(t *testing.T) {
	for _, x := range []struct {
		id, epoch int
		s         api.Span
		good      bool
	}{
		{1, 1, all, true}, {8, 2, sp("b", "p"), true}, {api.MaxRev, api.MaxEpoch, sp(longest, ""), true}, {1, 1, sp("", "\x00"), true},
		{0, 1, all, false}, {1, 0, all, false}, {-1, 1, all, false}, {1, math.MinInt, all, false}, {api.MaxRev + 1, 1, all, false}, {1, api.MaxEpoch + 1, all, false}, {math.MaxInt, math.MaxInt, all, false}, {1, 1, sp("b", "b"), false}, {1, 1, sp("b", "a"), false}, {1, 1, sp(tooLong, ""), false}, {1, 1, sp("", tooLong), false},
	} {
		got := shard.New(x.id, x.epoch, x.s)
		if !same(got, api.Shard{ID: x.id, Epoch: x.epoch, Span: x.s}) || shard.Is(got) != x.good {
			t.Errorf("P15.1: New(%d, %d, %q): %#v, of which Is: %v", x.id, x.epoch, x.s, got, !x.good)
		}
	}
}

// P15.1
func TestIs(t *testing.T) {
	for i, s := range shards() {
		if !shard.Is(s) {
			t.Errorf("P15.1: Is of shard %d: false: %#v", i, s)
		}
	}
	longHistory := func(n int) func(s *api.Shard) {
		return func(s *api.Shard) {
			s.Cells, s.Events = cells{is("b", "v", n, 0)}, nil
			for i := range n {
				s.Events = append(s.Events, was("b", i+1, "v"))
			}
		}
	}
	for name, x := range map[string]struct {
		change func(s *api.Shard)
		want   bool
	}{
		"as it is":   {func(s *api.Shard) {}, true},
		"frozen":     {func(s *api.Shard) { s.Frozen = true }, true},
		"empty":      {func(s *api.Shard) { s.Cells, s.Events, s.Done = cells{}, events{}, dones{} }, true},
		"ID":         {func(s *api.Shard) { s.ID = 0 }, false},
		"ID, below":  {func(s *api.Shard) { s.ID = -1 }, false},
		"ID, least":  {func(s *api.Shard) { s.ID = math.MinInt }, false},
		"ID, first":  {func(s *api.Shard) { s.ID = 1 }, true},
		"ID, last":   {func(s *api.Shard) { s.ID = api.MaxRev }, true},
		"ID, above":  {func(s *api.Shard) { s.ID = api.MaxRev + 1 }, false},
		"Epoch":      {func(s *api.Shard) { s.Epoch = 0 }, false},
		"Epoch <":    {func(s *api.Shard) { s.Epoch = -1 }, false},
		"Epoch 1":    {func(s *api.Shard) { s.Epoch = 1 }, true},
		"Epoch last": {func(s *api.Shard) { s.Epoch = api.MaxEpoch }, true},
		"Epoch >":    {func(s *api.Shard) { s.Epoch = api.MaxEpoch + 1 }, false},
		"Span":       {func(s *api.Shard) { s.Span = sp("p", "b") }, false},
		"Span, none": {func(s *api.Shard) { *s = shard.New(1, 1, sp("b", "b")) }, false},
		"Span, long": {func(s *api.Shard) { s.Span.To = tooLong }, false},
		"all":        {func(s *api.Shard) { s.Span = all }, true},
		"tight":      {func(s *api.Shard) { s.Span = sp("b", "o\x00") }, true},
		"low":        {func(s *api.Shard) { s.Span.From = "b\x00" }, false},
		"low, all":   {func(s *api.Shard) { s.Span = sp("c", "") }, false},
		"high":       {func(s *api.Shard) { s.Span.To = "o" }, false},
		"midst":      {func(s *api.Shard) { s.Span = sp("c", "o") }, false},
		"nowhere":    {func(s *api.Shard) { s.Span = sp("q", "") }, false},
		"order":      {func(s *api.Shard) { s.Cells[0], s.Cells[1] = s.Cells[1], s.Cells[0] }, false},
		"twice":      {func(s *api.Shard) { s.Cells[3] = s.Cells[2] }, false},
		"value":      {func(s *api.Shard) { s.Cells[2].Value = tooMuch }, false},
		"floor":      {func(s *api.Shard) { s.Cells[2].Floor = 8 }, false},
		"less floor": {func(s *api.Shard) { s.Cells[2].Floor = 6 }, false},
		"version":    {func(s *api.Shard) { s.Cells[2].Version, s.Cells[2].Floor = 0, 0 }, false},
		"too late":   {func(s *api.Shard) { s.Cells[3].Version++ }, false},
		"one lacks":  {func(s *api.Shard) { s.Events = s.Events[1:] }, false},
		"last lacks": {func(s *api.Shard) { s.Events = s.Events[:3] }, false},
		"all lack":   {func(s *api.Shard) { s.Events = nil }, false},
		"no cells":   {func(s *api.Shard) { s.Cells = nil }, false},
		"other":      {func(s *api.Shard) { s.Events[3].Value = "y" }, false},
		"event":      {func(s *api.Shard) { s.Events[1].Value = tooMuch }, false},
		"one more":   {func(s *api.Shard) { s.Events = append(s.Events, was("n", 1, "v")) }, false},
		"24 events":  {longHistory(api.MaxHistory), true},
		"25 events":  {longHistory(api.MaxHistory + 1), false},
		"session":    {func(s *api.Shard) { s.Done[1].Session = api.MaxSessions }, false},
		"sessions":   {func(s *api.Shard) { s.Done[1].Session = 0 }, false},
		"request":    {func(s *api.Shard) { s.Done[0].ID = 0 }, false},
		"request >":  {func(s *api.Shard) { s.Done[0].ID = api.MaxRev + 1 }, false},
		"answer":     {func(s *api.Shard) { s.Done[1].Answer.Rows = make([]api.Row, api.MaxRows+1) }, false},
		"answer < 0": {func(s *api.Shard) { s.Done[0].Answer.Version = -1 }, false},
		"no answer":  {func(s *api.Shard) { s.Done[0].Answer = api.Answer{} }, true},
	} {
		s := bay()
		x.change(&s)
		if got := shard.Is(s); got != x.want {
			t.Errorf("P15.1: Is of %s: %v: %#v", name, got, s)
		}
	}
}

// unlike: bay, and it with one part changed, each in its own way; not all are Is.
func unlike() []api.Shard {
	var l []api.Shard
	add := func(change func(s *api.Shard)) {
		s := bay()
		change(&s)
		l = append(l, s)
	}
	for _, change := range []func(s *api.Shard){
		func(s *api.Shard) {}, func(s *api.Shard) { *s = api.Shard{} }, func(s *api.Shard) { s.ID = 3 }, func(s *api.Shard) { s.Epoch = 7 }, func(s *api.Shard) { s.Span.From = "" }, func(s *api.Shard) { s.Span.To = "" }, func(s *api.Shard) { s.Frozen = true },
		func(s *api.Shard) { s.Cells = nil }, func(s *api.Shard) { s.Cells = s.Cells[1:] }, func(s *api.Shard) { s.Cells = s.Cells[:5] }, func(s *api.Shard) { s.Cells[0], s.Cells[1] = s.Cells[1], s.Cells[0] },
		func(s *api.Shard) { s.Cells[2].Key = "h" }, func(s *api.Shard) { s.Cells[2].Value = "" }, func(s *api.Shard) { s.Cells[2].Version++ }, func(s *api.Shard) { s.Cells[2].Del = true }, func(s *api.Shard) { s.Cells[2].Floor = 0 }, func(s *api.Shard) { s.Cells[5].Floor = -1 },
		func(s *api.Shard) { s.Events = nil }, func(s *api.Shard) { s.Events = s.Events[1:] }, func(s *api.Shard) { s.Events = s.Events[:3] }, func(s *api.Shard) { s.Events[0], s.Events[1] = s.Events[1], s.Events[0] },
		func(s *api.Shard) { s.Events[1].Key = "c" }, func(s *api.Shard) { s.Events[1].Value = "" }, func(s *api.Shard) { s.Events[1].Version = 0 }, func(s *api.Shard) { s.Events[3].Del = true },
		func(s *api.Shard) { s.Done = nil }, func(s *api.Shard) { s.Done = s.Done[1:] }, func(s *api.Shard) { s.Done = s.Done[:1] }, func(s *api.Shard) { s.Done[0], s.Done[1] = s.Done[1], s.Done[0] },
		func(s *api.Shard) { s.Done[0].Session = 1 }, func(s *api.Shard) { s.Done[1].ID = 6 }, func(s *api.Shard) { s.Done[0].Answer.Code = 14 }, func(s *api.Shard) { s.Done[0].Answer.Value = "v" }, func(s *api.Shard) { s.Done[0].Answer.Version = 3 }, func(s *api.Shard) { s.Done[1].Answer.Rows = nil },
		func(s *api.Shard) { s.Done[1].Answer.Rows[0].Key = "c" }, func(s *api.Shard) { s.Done[1].Answer.Rows[1].Value = "" }, func(s *api.Shard) { s.Done[1].Answer.Rows[1].Version = -3 }, func(s *api.Shard) { s.Done[1].Answer.Rows = s.Done[1].Answer.Rows[:1] },
	} {
		add(change)
	}
	return l
}

// P15.1
func TestSame(t *testing.T) {
	for i, a := range unlike() {
		for j, b := range unlike() {
			if got := shard.Same(a, b); got != (i == j) {
				t.Errorf("P15.1: Same(%#v, %#v): %v", a, b, got)
			}
		}
	}
	s := api.Shard{Cells: cells{}, Events: events{}, Done: dones{{Answer: api.Answer{Rows: []api.Row{}}}}}
	if r := (api.Shard{Done: dones{{}}}); !shard.Same(s, r) || !shard.Same(r, s) {
		t.Error("P15.1: Same of lists that are nil and empty: false")
	}
}

// does: what Do tells, and the changes that there are.
type does struct {
	o       api.Op
	want    api.Answer
	changes events
}

// P15.2
func TestDoOne(t *testing.T) {
	for _, x := range []does{
		{get("b"), api.Answer{Value: "x", Version: 2}, nil}, {get("k"), api.Answer{Value: fullest, Version: api.MaxRev}, nil}, {get("d"), err(api.ErrNone, 4), nil}, {get("c"), err(api.ErrNone, 0), nil}, {get("o"), err(api.ErrNone, api.MaxRev), nil},
		{put("b", "n"), at(3), events{was("b", 3, "n")}}, {put("b", "x"), at(3), events{was("b", 3, "x")}}, {put("b", ""), at(3), events{was("b", 3, "")}}, {put("b", fullest), at(3), events{was("b", 3, fullest)}}, {put("d", "n"), at(5), events{was("d", 5, "n")}}, {put("c", "n"), at(1), events{was("c", 1, "n")}}, {put("b\x00", "n"), at(1), events{was("b\x00", 1, "n")}}, {put("ozzzzzzz", "n"), at(1), events{was("ozzzzzzz", 1, "n")}}, {put("g", "n"), at(8), events{was("g", 8, "n")}}, {put("m", "n"), at(api.MaxRev), events{was("m", api.MaxRev, "n")}},
		{put("b", tooMuch), err(api.ErrLarge, 2), nil}, {put("b", mostAsk), err(api.ErrLarge, 2), nil}, {put("c", tooMuch), err(api.ErrLarge, 0), nil}, {put("d", tooMuch), err(api.ErrLarge, 4), nil}, {put("k", "n"), err(api.ErrSpent, api.MaxRev), nil}, {put("o", "n"), err(api.ErrSpent, api.MaxRev), nil}, {put("k", tooMuch), err(api.ErrLarge, api.MaxRev), nil},
		{del("b"), at(3), events{wasDel("b", 3)}}, {del("g"), at(8), events{wasDel("g", 8)}}, {del("m"), at(api.MaxRev), events{wasDel("m", api.MaxRev)}}, {del("d"), err(api.ErrNone, 4), nil}, {del("c"), err(api.ErrNone, 0), nil}, {del("o"), err(api.ErrNone, api.MaxRev), nil}, {del("k"), err(api.ErrSpent, api.MaxRev), nil},
		// if its version is that
		{cas("b", "n", 2), at(3), events{was("b", 3, "n")}}, {cas("c", "n", 0), at(1), events{was("c", 1, "n")}}, {cas("d", "n", 4), at(5), events{was("d", 5, "n")}}, {cas("m", "n", api.MaxRev-1), at(api.MaxRev), events{was("m", api.MaxRev, "n")}}, {cas("b", tooMuch, 2), err(api.ErrLarge, 2), nil}, {cas("k", "n", api.MaxRev), err(api.ErrSpent, api.MaxRev), nil}, {cas("o", "n", api.MaxRev), err(api.ErrSpent, api.MaxRev), nil},
		{cas("b", "n", 1), err(api.ErrClash, 2), nil}, {cas("b", "n", 3), err(api.ErrClash, 2), nil}, {cas("b", "n", 0), err(api.ErrClash, 2), nil}, {cas("c", "n", 1), err(api.ErrClash, 0), nil}, {cas("d", "n", 0), err(api.ErrClash, 4), nil}, {cas("d", "n", 3), err(api.ErrClash, 4), nil}, {cas("b", tooMuch, 1), err(api.ErrClash, 2), nil}, {cas("k", "n", 1), err(api.ErrClash, api.MaxRev), nil},
		// rows
		{within("b", "p"), rows(row("b", "x", 2), row("g", "y", 7), row("k", fullest, api.MaxRev), row("m", "z", api.MaxRev-1)), nil}, {within("b", "c"), rows(row("b", "x", 2)), nil}, {within("b\x00", "k"), rows(row("g", "y", 7)), nil}, {within("c", "g"), rows(), nil}, {within("n", "p"), rows(), nil},
		{within("b", ""), err(api.ErrSplit, 0), nil}, {within("b", "p\x00"), err(api.ErrSplit, 0), nil}, {within("o", "q"), err(api.ErrSplit, 0), nil}, {within("c", ""), err(api.ErrSplit, 0), nil},
		// ill-formed
		{api.Op{}, err(api.ErrForm, 0), nil}, {api.Op{Kind: 8, Key: "b"}, err(api.ErrForm, 0), nil}, {get(""), err(api.ErrForm, 0), nil}, {api.Op{Kind: api.OGet, Key: "b", To: "c"}, err(api.ErrForm, 0), nil}, {put("b", mostAsk+"v"), err(api.ErrForm, 0), nil}, {put(tooLong, "v"), err(api.ErrForm, 0), nil}, {cas("b", "n", -1), err(api.ErrForm, 0), nil}, {cas("b", "n", api.MaxRev+1), err(api.ErrForm, 0), nil}, {within("c", "c"), err(api.ErrForm, 0), nil}, {compact("b", api.MaxHistory+1), err(api.ErrForm, 0), nil}, {compact("b", -1), err(api.ErrForm, 0), nil}, {batch(), err(api.ErrForm, 0), nil}, {batch(w("d", "n"), w("b", "n")), err(api.ErrForm, 0), nil},
	} {
		x.holds(t, bay())
		x.holds(t, frozen(bay()))
	}
}

// holds: on a shard.
func (x does) holds(t *testing.T, s api.Shard) {
	t.Helper()
	got, a := shard.Do(s, x.o)
	if want := turned(s, x.changes...); !op.SameAnswer(a, x.want) || !same(got, want) || !shard.Is(got) {
		t.Errorf("P15.2: Do(%#v, %#v): %#v, %#v, not %#v, %#v", s, x.o, got, a, want, x.want)
	}
}

// P15.2
func TestDoBatch(t *testing.T) {
	for _, x := range []does{
		{batch(w("b", "n")), at(1), events{was("b", 3, "n")}}, {batch(wDel("b")), at(1), events{wasDel("b", 3)}}, {batch(w("b", "1"), w("c", "2"), w("d", "3"), w("n", "4")), at(4), events{was("b", 3, "1"), was("c", 1, "2"), was("d", 5, "3"), was("n", 1, "4")}}, {batch(w("b", "x"), w("g", "")), at(2), events{was("b", 3, "x"), was("g", 8, "")}},
		// what isn't there
		{batch(wDel("c")), at(0), nil}, {batch(wDel("d")), at(0), nil}, {batch(wDel("o")), at(0), nil}, {batch(wDel("c"), wDel("d"), wDel("e"), wDel("o")), at(0), nil}, {batch(wDel("b"), wDel("c"), wDel("d"), w("e", "n")), at(2), events{wasDel("b", 3), was("e", 1, "n")}}, {batch(wDel("c"), w("g", "n")), at(1), events{was("g", 8, "n")}},
		// the first error, and nothing is changed
		{batch(w("b", tooMuch)), err(api.ErrLarge, 0), nil}, {batch(w("b", "n"), w("c", tooMuch)), err(api.ErrLarge, 0), nil}, {batch(w("b", tooMuch), w("c", "n")), err(api.ErrLarge, 0), nil}, {batch(w("b", "n"), w("k", "n")), err(api.ErrSpent, 0), nil}, {batch(w("b", "n"), wDel("k")), err(api.ErrSpent, 0), nil}, {batch(wDel("c"), w("o", "n")), err(api.ErrSpent, 0), nil}, {batch(w("b", "1"), w("c", "2"), w("d", "3"), w("k", "4")), err(api.ErrSpent, 0), nil},
		{batch(w("b", tooMuch), w("k", "n")), err(api.ErrLarge, 0), nil}, {batch(w("k", "n"), w("n", tooMuch)), err(api.ErrSpent, 0), nil}, {batch(w("k", tooMuch), w("o", "n")), err(api.ErrLarge, 0), nil}, {batch(wDel("d"), w("k", "n"), w("n", tooMuch)), err(api.ErrSpent, 0), nil}, {batch(w("m", "n"), wDel("o")), at(1), events{was("m", api.MaxRev, "n")}},
		// a Key elsewhere, ahead of all others
		{batch(w("b", "n"), w("p", "n")), err(api.ErrSplit, 0), nil}, {batch(w("b", "n"), wDel("z")), err(api.ErrSplit, 0), nil}, {batch(w("b", tooMuch), w("p", "n")), err(api.ErrSplit, 0), nil}, {batch(w("k", "n"), w("p", tooMuch)), err(api.ErrSplit, 0), nil}, {batch(w("b", "n"), w("c", "n"), w("d", "n"), w("p", "n")), err(api.ErrSplit, 0), nil},
	} {
		x.holds(t, bay())
		x.holds(t, frozen(bay()))
	}
}

// P15.2
func TestDoCompact(t *testing.T) {
	went := []func(s *api.Shard){ // the first ones go, Floors rise
		func(s *api.Shard) {}, func(s *api.Shard) { s.Cells[1].Floor = 3 }, func(s *api.Shard) { s.Cells[0].Floor = 1 }, func(s *api.Shard) { s.Cells[1].Floor = 4 }, func(s *api.Shard) { s.Cells[0].Floor = 2 },
	}
	want := bay()
	for goes, change := range went {
		change(&want)
		want.Events = bay().Events[goes:]
		for _, key := range []string{"b", "c", "d", "ozzzzzzz"} {
			if got, a := shard.Do(bay(), compact(key, 4-goes)); !op.SameAnswer(a, at(goes)) || !same(got, want) || !shard.Is(got) {
				t.Errorf("P15.2: Do(compact %q, %d): %#v, %#v", key, 4-goes, got, a)
			}
		}
	}
	for _, n := range []int{5, 23, api.MaxHistory} {
		if got, a := shard.Do(bay(), compact("b", n)); !op.SameAnswer(a, at(0)) || !same(got, bay()) {
			t.Errorf("P15.2: Do(compact %d): %#v, %#v", n, got, a)
		}
	}
	if got, a := shard.Do(full(30), compact("a", 1)); a.Version != 23 || len(got.Events) != 1 || !shard.Is(got) {
		t.Errorf("P15.2: Do(compact) of a full one: %#v, %#v", got, a)
	}
}

// P15.2: of a range the first rows, those that are there; the whole span, too, that has no end.
func TestDoRows(t *testing.T) {
	for n := range 20 {
		_, a := shard.Do(wide(n), within("a", "n"))
		if a.Code != 0 || len(a.Rows) != min(n, 16) {
			t.Fatalf("P15.2: Do(range) of %d: %#v", n, a)
		}
		for i, r := range a.Rows {
			if r != row("c"+string([]byte{byte('a' + i)}), "v", 2) {
				t.Errorf("P15.2: Do(range) of %d, row %d: %#v", n, i, r)
			}
		}
	}
	for _, x := range []struct {
		s  api.Span
		o  api.Op
		ok bool
	}{
		{all, within("b", ""), true}, {all, within("a", "zz"), true}, {sp("b", ""), within("b", ""), true}, {sp("b", ""), within("bb", "z"), true}, {sp("", "p"), within("a", "p"), true}, {sp("", "p"), within("a", "p\x00"), false}, {sp("", "p"), within("a", ""), false},
	} {
		_, a := shard.Do(of(x.s), x.o)
		if x.ok != (a.Code == 0 && len(a.Rows) > 0) || !x.ok && !op.SameAnswer(a, err(api.ErrSplit, 0)) {
			t.Errorf("P15.2: Do(%#v) of %q: %#v", x.o, x.s, a)
		}
	}
}

// P15.2: of all shards and ops, whose Key is there.
func TestDoOfAll(t *testing.T) {
	codes := map[int]int{}
	for _, s := range shards() {
		for _, o := range ops() {
			if op.Is(o) && !isIn(s.Span, op.Key(o)) {
				shard.Do(s, o) // nothing is promised, but that it comes back
				continue
			}
			want, wantA := wantDo(s, o)
			given := copies(s)
			got, a := shard.Do(given, o)
			if !op.SameAnswer(a, wantA) || !same(got, want) || !shard.Is(got) || !same(given, s) {
				t.Fatalf("P15.2: Do(%#v, %#v): %#v, %#v, not %#v, %#v", s, o, got, a, want, wantA)
			}
			codes[a.Code]++
		}
	}
	for _, code := range []api.Errno{api.OK, api.ErrForm, api.ErrNone, api.ErrLarge, api.ErrClash, api.ErrSplit, api.ErrSpent} {
		if codes[int(code)] < 100 {
			t.Errorf("P15.2: %d were answered %d: too few to tell much", codes[int(code)], code)
		}
	}
}

// P15.2: what Do does hangs on no number of the shard, and not on what was done; of a shard that isn't Is, too.
func TestDoOfWrongOnes(t *testing.T) {
	for _, x := range []struct {
		s    api.Shard
		o    api.Op
		want api.Shard
		a    api.Answer
	}{
		{shard.New(0, -1, all), put("a", "v"), api.Shard{Epoch: -1, Cells: cells{is("a", "v", 1, 0)}, Events: events{was("a", 1, "v")}}, at(1)},
		{api.Shard{Done: dones{did(9, -1, at(-1)), did(9, -1, at(-1))}}, put("a", "v"), api.Shard{Cells: cells{is("a", "v", 1, 0)}, Events: events{was("a", 1, "v")}, Done: dones{did(9, -1, at(-1)), did(9, -1, at(-1))}}, at(1)},
		{api.Shard{Cells: cells{is("b", "v", 3, 0), is("a", "v", 9, 0)}}, del("b"), api.Shard{Cells: cells{gone("b", 4, 0), is("a", "v", 9, 0)}, Events: events{wasDel("b", 4)}}, at(4)},
		{api.Shard{Cells: cells{is("b", "v", 3, 0), is("b", "w", 9, 0)}}, get("b"), api.Shard{Cells: cells{is("b", "v", 3, 0), is("b", "w", 9, 0)}}, api.Answer{Value: "v", Version: 3}},
		{api.Shard{Cells: cells{is("b", "v", -3, 0)}}, get("b"), api.Shard{Cells: cells{is("b", "v", -3, 0)}}, err(api.ErrNone, -3)},
		{api.Shard{Cells: cells{is("b", "v", -3, 0)}}, del("b"), api.Shard{Cells: cells{is("b", "v", -3, 0)}}, err(api.ErrNone, -3)},
		{api.Shard{Cells: cells{is("b", "v", api.MaxRev+1, 0)}}, put("b", "w"), api.Shard{Cells: cells{is("b", "v", api.MaxRev+1, 0)}}, err(api.ErrSpent, api.MaxRev+1)},
		{api.Shard{Cells: cells{is("b", "v", 1, 0)}}, cas("b", "w", 1), api.Shard{Cells: cells{is("b", "w", 2, 0)}, Events: events{was("b", 2, "w")}}, at(2)},
		{api.Shard{Events: make(events, 30)}, compact("b", 24), api.Shard{Events: make(events, 24)}, at(6)},
		{api.Shard{Events: make(events, 30)}, put("b", "w"), api.Shard{Cells: cells{is("b", "w", 1, 0)}, Events: append(make(events, 23), was("b", 1, "w"))}, at(1)},
		{api.Shard{Events: make(events, 30)}, get("b"), api.Shard{Events: make(events, 30)}, err(api.ErrNone, 0)},
	} {
		if got, a := shard.Do(x.s, x.o); !op.SameAnswer(a, x.a) || !same(got, x.want) {
			t.Errorf("P15.2: Do(%#v, %#v): %#v, %#v", x.s, x.o, got, a)
		}
	}
}

// noted: bay with its requests as they are noted.
func noted(s api.Shard, l ...api.Done) api.Shard {
	s.Done = l
	return s
}

// P15.3
func TestAsk(t *testing.T) {
	first, last := bay().Done[0], bay().Done[1]
	put3 := turned(bay(), was("b", 3, "n"))
	for _, x := range []struct {
		session, id int
		o           api.Op
		want        api.Shard
		a           api.Answer
		n           int
	}{
		// what was done, and what came too late: whatever is asked
		{0, 3, put("b", "n"), bay(), first.Answer, 1}, {2, 5, put("b", "n"), bay(), last.Answer, 1}, {2, 5, get("c"), bay(), last.Answer, 1}, {0, 3, api.Op{}, bay(), first.Answer, 1},
		{0, 2, put("b", "n"), bay(), api.Answer{}, 2}, {0, 1, get("b"), bay(), api.Answer{}, 2}, {2, 4, put("b", "n"), bay(), api.Answer{}, 2}, {2, math.MinInt, put("b", "n"), bay(), api.Answer{}, 2}, {0, 0, api.Op{}, bay(), api.Answer{}, 2},
		// a new one that writes
		{0, 4, put("b", "n"), noted(put3, did(0, 4, at(3)), last), at(3), 0}, {0, api.MaxRev, put("b", "n"), noted(put3, did(0, api.MaxRev, at(3)), last), at(3), 0}, {1, 1, put("b", "n"), noted(put3, first, did(1, 1, at(3)), last), at(3), 0}, {2, 6, put("b", "n"), noted(put3, first, did(2, 6, at(3))), at(3), 0},
		{1, 9, del("b"), noted(turned(bay(), wasDel("b", 3)), first, did(1, 9, at(3)), last), at(3), 0}, {1, 9, cas("b", "n", 2), noted(put3, first, did(1, 9, at(3)), last), at(3), 0}, {1, 9, batch(w("b", "n"), wDel("c")), noted(put3, first, did(1, 9, at(1)), last), at(1), 0}, {1, 9, compact("b", 0), noted(kept(bay(), 0), first, did(1, 9, at(4)), last), at(4), 0},
		// refused, and noted
		{0, 4, put("b", tooMuch), noted(bay(), did(0, 4, err(api.ErrLarge, 2)), last), err(api.ErrLarge, 2), 0}, {1, 1, put("k", "n"), noted(bay(), first, did(1, 1, err(api.ErrSpent, api.MaxRev)), last), err(api.ErrSpent, api.MaxRev), 0}, {1, 1, del("c"), noted(bay(), first, did(1, 1, err(api.ErrNone, 0)), last), err(api.ErrNone, 0), 0}, {2, 9, cas("b", "n", 1), noted(bay(), first, did(2, 9, err(api.ErrClash, 2))), err(api.ErrClash, 2), 0}, {1, 2, batch(w("b", "n"), w("p", "n")), noted(bay(), first, did(1, 2, err(api.ErrSplit, 0)), last), err(api.ErrSplit, 0), 0}, {1, 2, batch(wDel("c")), noted(bay(), first, did(1, 2, at(0)), last), at(0), 0},
		{1, 2, compact("b", 25), noted(bay(), first, did(1, 2, err(api.ErrForm, 0)), last), err(api.ErrForm, 0), 0}, {1, 2, put("", "n"), noted(bay(), first, did(1, 2, err(api.ErrForm, 0)), last), err(api.ErrForm, 0), 0}, {0, 4, api.Op{}, noted(bay(), did(0, 4, err(api.ErrForm, 0)), last), err(api.ErrForm, 0), 0}, {0, 4, api.Op{Kind: 8}, noted(bay(), did(0, 4, err(api.ErrForm, 0)), last), err(api.ErrForm, 0), 0},
		// what doesn't write isn't noted
		{0, 4, get("b"), bay(), api.Answer{Value: "x", Version: 2}, 0}, {1, 1, get("c"), bay(), err(api.ErrNone, 0), 0}, {1, 1, get(""), bay(), err(api.ErrForm, 0), 0}, {2, 6, within("b", "c"), bay(), rows(row("b", "x", 2)), 0}, {2, 6, within("b", ""), bay(), err(api.ErrSplit, 0), 0}, {2, 6, within("b", "b"), bay(), err(api.ErrForm, 0), 0},
		// no such session, no such request
		{-1, 1, put("b", "n"), noted(put3, did(-1, 1, at(3)), first, last), at(3), 0}, {3, 0, put("b", "n"), noted(put3, first, last, did(3, 0, at(3))), at(3), 0}, {1, math.MinInt, put("b", "n"), noted(put3, first, did(1, math.MinInt, at(3)), last), at(3), 0}, {3, 1, get("b"), bay(), api.Answer{Value: "x", Version: 2}, 0},
	} {
		for _, s := range []api.Shard{bay(), frozen(bay())} {
			x.want.Frozen = s.Frozen
			got, a, n := shard.Ask(s, x.session, x.id, x.o)
			if !op.SameAnswer(a, x.a) || n != x.n || !same(got, x.want) {
				t.Errorf("P15.3: Ask(%d, %d, %#v): %#v, %#v, %d, not %#v, %#v, %d", x.session, x.id, x.o, got, a, n, x.want, x.a, x.n)
			}
		}
	}
}

// wantAsk: the document's words once more, of a shard that is Is.
func wantAsk(s api.Shard, session, id int, o api.Op) (api.Shard, api.Answer, int) {
	var others dones
	for _, d := range s.Done {
		switch {
		case d.Session != session:
			others = append(others, d)
		case d.ID == id:
			return s, d.Answer, 1
		case d.ID > id:
			return s, api.Answer{}, 2
		}
	}
	got, a := wantDo(s, o)
	if o.Kind == api.OGet || o.Kind == api.ORange {
		return got, a, 0
	}
	got.Done = append(others, did(session, id, a))
	slices.SortFunc(got.Done, func(x, y api.Done) int { return x.Session - y.Session })
	return got, a, 0
}

// P15.3: of all shards and ops, whose Key is there.
func TestAskOfAll(t *testing.T) {
	many := [3]int{}
	for i, s := range shards() {
		for j, o := range ops() {
			session, id := (i+j)%api.MaxSessions, 1+(i*5+j)%7
			if op.Is(o) && !isIn(s.Span, op.Key(o)) {
				shard.Ask(s, session, id, o)
				continue
			}
			want, wantA, wantN := wantAsk(s, session, id, o)
			got, a, n := shard.Ask(s, session, id, o)
			if !op.SameAnswer(a, wantA) || n != wantN || !same(got, want) || !shard.Is(got) {
				t.Fatalf("P15.3: Ask(%#v, %d, %d, %#v): %#v, %#v, %d, not %#v, %#v, %d", s, session, id, o, got, a, n, want, wantA, wantN)
			}
			many[n]++
			if again, a2, n2 := shard.Ask(got, session, id, o); n == 0 && (o.Kind != api.OGet && o.Kind != api.ORange) && (n2 != 1 || !op.SameAnswer(a, a2) || !same(again, got)) {
				t.Fatalf("P15.3: Ask(%#v, %d, %d, %#v) once more: %#v, %#v, %d", got, session, id, o, again, a2, n2)
			}
		}
	}
	if min(many[0], many[1], many[2]) < 100 {
		t.Errorf("P15.3: %v: too few to tell much", many)
	}
}

// P15.3
func TestFeed(t *testing.T) {
	l := bay().Events
	floors := seen{saw("d", 2), saw("g", 7), saw("k", api.MaxRev), saw("m", api.MaxRev-1), saw("o", api.MaxRev)}
	ahead := seen{saw("b", 1), saw("d", 3), saw("g", 7), saw("k", api.MaxRev), saw("m", api.MaxRev), saw("o", api.MaxRev)}
	for _, x := range []struct {
		s         api.Span
		seen      seen
		credit    int
		want      events
		compacted bool
	}{
		{all, floors, 8, l, false}, {all, ahead, 8, l[2:], false}, {all, nil, 8, nil, true}, {all, seen{saw("d", 1), saw("g", 7), saw("k", api.MaxRev), saw("m", api.MaxRev), saw("o", api.MaxRev)}, 8, nil, true}, {all, floors[:4], 8, nil, true},
		// of credit
		{all, floors, 3, l[:3], false}, {all, floors, 1, l[:1], false}, {all, floors, 0, nil, false}, {all, floors, -1, nil, false}, {all, floors, math.MinInt, nil, false}, {all, floors, math.MaxInt, l, false}, {all, nil, 0, nil, true}, {all, nil, -1, nil, true},
		// of what is in both
		{sp("b", "p"), floors, 8, l, false}, {sp("a", "c"), nil, 8, events{l[1], l[3]}, false}, {sp("", "d"), nil, 8, events{l[1], l[3]}, false}, {sp("d", "g"), floors, 8, events{l[0], l[2]}, false}, {sp("d", "z"), floors, 8, events{l[0], l[2]}, false}, {sp("d", ""), nil, 8, nil, true}, {sp("e", "g"), nil, 8, nil, false}, {sp("c", "d"), nil, 8, nil, false}, {sp("o", "z"), nil, 8, nil, true}, {sp("oo", "z"), nil, 8, nil, false}, {sp("g", "h"), seen{saw("g", 6)}, 8, nil, true}, {sp("g", "h"), seen{saw("g", 7)}, 8, nil, false},
		// none is
		{sp("p", ""), nil, 8, nil, false}, {sp("", "b"), nil, 8, nil, false}, {sp("x", "z"), floors, 8, nil, false}, {sp("p", "b"), nil, 8, nil, false}, {sp("c", "c"), nil, 8, nil, false}, {sp("", tooLong), nil, 8, nil, false}, {sp(tooLong, ""), floors, 8, nil, false},
		// tokens that aren't Is
		{all, seen{saw("o", api.MaxRev), saw("m", api.MaxRev), saw("k", api.MaxRev), saw("g", 7), saw("d", 2), saw("d", 1)}, 8, l, false}, {sp("b", "c"), seen{saw("b", -1)}, 8, nil, true},
	} {
		for _, s := range []api.Shard{bay(), frozen(bay())} {
			if got, compacted := shard.Feed(s, x.s, x.seen, x.credit); !slices.Equal(got, x.want) || compacted != x.compacted {
				t.Errorf("P15.3: Feed(%q, %#v, %d): %#v, %v", x.s, x.seen, x.credit, got, compacted)
			}
		}
	}
	wrong := of(sp("p", "b"))
	if got, compacted := shard.Feed(wrong, all, floors, 8); len(got) > 0 || compacted {
		t.Errorf("P15.3: Feed of a wrong Span: %#v, %v", got, compacted)
	}
	if got, compacted := shard.Feed(full(24), all, nil, 9); compacted || !slices.Equal(got, full(8).Events) {
		t.Errorf("P15.3: Feed of credit 9: %#v, %v", got, compacted)
	}
}

// P15.3: of all shards, many spans, tokens and credits.
func TestFeedOfAll(t *testing.T) {
	spans := []api.Span{all, sp("a", "d"), sp("", "b"), sp("b", "c"), sp("ca", "cd"), sp("d", ""), sp("b\x00", "z"), sp("z", "a"), sp("q", "")}
	ends := map[bool]int{}
	for _, s := range shards() {
		for i, p := range spans {
			for a := range 14 {
				token := seen{saw("a", a), saw("b", a/2), saw("c", 13-a), saw("d", a/4), saw("g", 7), saw("k", api.MaxRev), saw("m", api.MaxRev), saw("o", api.MaxRev)}
				credit := (a+i)%11 - 1
				want, gone := wantFeed(s, p, token, credit)
				got, compacted := shard.Feed(s, p, token, credit)
				if !slices.Equal(got, want) || compacted != gone {
					t.Fatalf("P15.3: Feed(%#v, %q, %#v, %d): %#v, %v, not %#v, %v", s, p, token, credit, got, compacted, want, gone)
				}
				ends[gone]++
			}
		}
	}
	if min(ends[true], ends[false]) < 100 {
		t.Errorf("P15.3: %v: too few to tell much", ends)
	}
}

// wantFeed: the document's words once more, of a shard that is Is.
func wantFeed(s api.Shard, p api.Span, token seen, credit int) (events, bool) {
	inBoth := func(k string) bool {
		return isIn(s.Span, k) && isIn(p, k) && !(p.To != "" && p.To <= p.From)
	}
	of := func(k string) int {
		i := slices.IndexFunc(token, func(x api.Seen) bool { return x.Key == k })
		if i < 0 {
			return 0
		}
		return token[i].Version
	}
	var l events
	for _, e := range s.Events {
		if inBoth(e.Key) && e.Version > of(e.Key) && len(l) < min(credit, 8) {
			l = append(l, e)
		}
	}
	for _, c := range s.Cells {
		if inBoth(c.Key) && c.Floor > of(c.Key) {
			return nil, true
		}
	}
	return l, false
}

// spoil: all of a list, the spare room too.
func spoil[T any](l []T, by T) {
	l = l[:cap(l)]
	for i := range l {
		l[i] = by
	}
}

// spoilShard: all of its lists, down to the Rows.
func spoilShard(s api.Shard) {
	spoil(s.Cells, is("spoilt", "", -9, -9))
	spoil(s.Events, was("spoilt", -9, ""))
	for _, d := range s.Done {
		spoil(d.Answer.Rows, row("spoilt", "", -9))
	}
	spoil(s.Done, did(-9, -9, at(-9)))
}

// roomy: a shard with spare room behind each list.
func roomy(s api.Shard) api.Shard {
	s = copies(s)
	s.Cells = append(s.Cells, is("spare", "", 7, 0), is("spare", "", 8, 0))[:len(s.Cells)]
	s.Events = append(s.Events, was("spare", 7, ""), was("spare", 8, ""))[:len(s.Events)]
	s.Done = append(s.Done, did(7, 7, at(7)), did(8, 8, at(8)))[:len(s.Done)]
	for i, d := range s.Done {
		s.Done[i].Answer.Rows = append(d.Answer.Rows, row("spare", "", 7))[:len(d.Answer.Rows)]
	}
	return s
}

// withRoom: a shard as text, with the spare room behind all its lists.
func withRoom(s api.Shard) string {
	s.Cells, s.Events, s.Done = s.Cells[:cap(s.Cells)], s.Events[:cap(s.Events)], slices.Clone(s.Done[:cap(s.Done)])
	for i, d := range s.Done {
		s.Done[i].Answer.Rows = d.Answer.Rows[:cap(d.Answer.Rows)]
	}
	return text(s)
}

// told: all that a call answers.
type told struct {
	s    api.Shard
	a    api.Answer
	feed events
}

func (x told) text() string {
	return text(x.s) + text(api.Shard{Events: x.feed, Done: dones{did(0, 0, x.a)}})
}

func (x told) spoil() {
	spoilShard(x.s)
	spoil(x.a.Rows, row("spoilt", "", -9))
	spoil(x.feed, was("spoilt", -9, ""))
}

// calls: of each kind, by name.
func calls() map[string]func(s api.Shard) told {
	feed := func(p api.Span, token seen) func(s api.Shard) told {
		return func(s api.Shard) told {
			l, _ := shard.Feed(s, p, token, 8)
			return told{feed: l}
		}
	}
	ask := func(session, id int, o api.Op) func(s api.Shard) told {
		return func(s api.Shard) told {
			s, a, _ := shard.Ask(s, session, id, o)
			return told{s: s, a: a}
		}
	}
	l := map[string]func(s api.Shard) told{
		"Feed": feed(sp("a", "c"), nil), "Feed, the last": feed(sp("a", "c"), seen{saw("b", 1)}), "Feed, none": feed(sp("x", ""), nil), "Feed, compacted": feed(all, nil),
		"Ask, done": ask(2, 5, put("b", "n")), "Ask, too late": ask(2, 4, put("b", "n")),
	}
	for name, o := range map[string]api.Op{"get": get("b"), "get none": get("c"), "put": put("b", "n"), "put new": put("c", "n"), "put too much": put("b", tooMuch), "del": del("b"), "del none": del("c"), "cas": cas("b", "n", 2), "clash": cas("b", "n", 1), "range": within("b", "p"), "split": within("b", ""), "batch": batch(w("b", "1"), w("c", "2")), "batch of none": batch(wDel("c")), "batch, refused": batch(w("b", "n"), w("k", "n")), "batch, split": batch(w("b", "n"), w("z", "n")), "compact": compact("b", 2), "compact all": compact("b", 0), "compact none": compact("b", 24), "no op": {}} {
		l["Do, "+name] = func(s api.Shard) told {
			s, a := shard.Do(s, o)
			return told{s: s, a: a}
		}
		l["Ask, "+name], l["Ask of a new one, "+name] = ask(0, 4, o), ask(1, 1, o)
	}
	return l
}

// P15.2, P15.3: what is handed in is neither changed nor kept, and no two answers share memory, their spare room and their Rows included.
func TestMemory(t *testing.T) {
	for name, call := range calls() {
		given := roomy(bay())
		before := withRoom(given)
		first, second := call(given), call(given)
		want := second.text()
		first.spoil()
		if after := withRoom(given); after != before {
			t.Errorf("P15.2, P15.3: %s: what was handed in is changed: %s, not %s", name, after, before)
		}
		spoilShard(given)
		if got := second.text(); got != want {
			t.Errorf("P15.2, P15.3: %s: what was answered is changed: %s, not %s", name, got, want)
		}
	}
	b := roomy(api.Shard{Done: dones{did(1, 2, at(3))}, Events: events{was("b", 1, "v")}})
	l := roomy(api.Shard{Done: dones{did(1, 2, at(3))}, Events: events{was("b", 1, "v")}})
	before, token, o := withRoom(b), seen{saw("b", 1), saw("c", 1)}, batch(w("b", "1"), w("c", "2"))
	shard.Same(b, l)
	shard.Is(b)
	shard.Feed(b, all, token[:1], 8)
	got, _ := shard.Do(b, o)
	if withRoom(b) != before || withRoom(l) != before || !slices.Equal(token, seen{saw("b", 1), saw("c", 1)}) || !op.Same(o, batch(w("b", "1"), w("c", "2"))) {
		t.Errorf("P15.1, P15.2: what was handed in is changed: %#v, %#v, %#v, %#v", b, l, token, o)
	}
	want := text(got)
	spoil(o.Writes, wDel("spoilt"))
	if text(got) != want {
		t.Errorf("P15.2: what was answered is changed: %#v", got)
	}
}

// P15.3: no two lists of one answer share memory, also where those that were handed in do.
func TestRowsApart(t *testing.T) {
	shared, spoilt := rows(row("b", "w", 1), row("d", "v", 3)), row("spoilt", "", -9)
	s := noted(bay(), did(0, 3, shared), did(1, 0, shared), did(2, 5, shared))
	for name, call := range calls() {
		got := call(s)
		l := [][]api.Row{got.a.Rows}
		for _, d := range got.s.Done {
			l = append(l, d.Answer.Rows)
		}
		for i, rows := range l {
			spoil(rows, spoilt)
			for _, other := range l[i+1:] {
				if slices.Contains(other, spoilt) {
					t.Errorf("P15.3: %s: Rows are shared: %#v", name, got)
				}
			}
		}
	}
}

// past: all that ever happened, and how many of the first ones went.
type past struct {
	all  events
	went int
}

// do: what a request changes, by the document's words once more; none of these is too large.
func (p *past) do(o api.Op) {
	switch o.Kind {
	case api.OPut:
		p.write(w(o.Key, o.Value))
	case api.ODel:
		p.write(wDel(o.Key))
	case api.OCas:
		if len(p.of(o.Key)) == o.Version {
			p.write(w(o.Key, o.Value))
		}
	case api.OBatch:
		for _, x := range o.Writes {
			p.write(x)
		}
	case api.OCompact:
		p.went = max(p.went, len(p.all)-o.Version)
	}
	p.went = max(p.went, len(p.all)-24)
}

func (p *past) write(x api.Write) {
	l := p.of(x.Key)
	if x.Del && (len(l) == 0 || l[len(l)-1].Del) {
		return
	}
	p.all = append(p.all, api.Event{Key: x.Key, Version: len(l) + 1, Value: x.Value, Del: x.Del})
}

// of: a key's events.
func (p *past) of(key string) events {
	return slices.DeleteFunc(slices.Clone(p.all), func(e api.Event) bool { return e.Key != key })
}

// lists: the cells and the events that there must be.
func (p *past) lists(keys []string) (cells, events) {
	var l cells
	for _, k := range keys {
		of := p.of(k)
		if len(of) == 0 {
			continue
		}
		last, floor := of[len(of)-1], 0
		for _, e := range p.all[:p.went] {
			if e.Key == k {
				floor = e.Version
			}
		}
		l = append(l, api.Cell{Key: k, Value: last.Value, Version: len(of), Del: last.Del, Floor: floor})
	}
	return l, p.all[p.went:]
}

// P15.2: by a long row of changes: each key's Versions go 1, 2, 3, and the last MaxHistory events stay.
func TestDoGoesOn(t *testing.T) {
	keys := []string{"a", "b", "c", "d", longest}
	s, p := shard.New(5, 1, all), &past{}
	for i := range 600 {
		k, value := keys[i*i%11%5], strconv.Itoa(i)
		o := []api.Op{put(k, value), batch(w("a", value), wDel("b"), w("c", ""), w("d", value)), del(k), put(k, value), cas(k, value, len(p.of(k))), batch(w("b", value), wDel(longest)), cas(k, value, len(p.of(k))+1), get(k), within(k, "")}[i%9]
		if i%97 == 96 {
			o = compact(k, i%25)
		}
		s, _ = shard.Do(s, o)
		p.do(o)
		l, events := p.lists(keys)
		if want := (api.Shard{ID: 5, Epoch: 1, Cells: l, Events: events}); !same(s, want) || !shard.Is(s) {
			t.Fatalf("P15.2: step %d: %#v: %#v, not %#v", i, o, s, want)
		}
	}
	if len(p.all) < 500 {
		t.Errorf("P15.2: %d events: too few to tell much", len(p.all))
	}
}

// request of a session.
type request struct {
	session, id int
	o           api.Op
}

func requests() []request {
	return []request{{0, 1, put("a", "1")}, {0, 2, del("a")}, {0, 3, put("a", "3")}, {1, 1, cas("a", "c", 1)}, {1, 2, batch(w("a", "b"), w("m", "b"))}, {2, 1, batch(wDel("a"), w("m", ""))}, {2, 2, compact("m", 1)}}
}

// P15.4: by all orders of some requests coming, each as often as may be: each key has one cell, which says its last Version; each request takes effect once at most, and is answered by what it was answered first, or not at all.
func TestOnePlace(t *testing.T) {
	l := requests()
	ends, again := 1, 0
	for range 5 {
		ends *= len(l)
	}
	for end := range ends {
		s, p, answers := shard.New(1, 1, sp("a", "z")), &past{}, map[int]api.Answer{}
		for left := end + ends; left > 1; left /= len(l) { // its digits are the steps
			step := left % len(l)
			r := l[step]
			got, a, n := shard.Ask(s, r.session, r.id, r.o)
			first, done := answers[step]
			switch {
			case n == 0 && done, n == 1 && (!done || !op.SameAnswer(a, first)), n == 2 && !op.SameAnswer(a, api.Answer{}), n > 0 && !same(got, s):
				t.Fatalf("P15.4: row %d: Ask(%#v, %#v): %#v, %#v, %d", end, s, r, got, a, n)
			case n == 0:
				answers[step] = a
				p.do(r.o)
			default:
				again++
			}
			s = got
			l, events := p.lists([]string{"a", "m"})
			if !slices.Equal(s.Cells, l) || !slices.Equal(s.Events, events) || !shard.Is(s) || s.Span != sp("a", "z") {
				t.Fatalf("P15.4: row %d: behind %#v: %#v, not %#v, %#v", end, r, s, l, events)
			}
		}
	}
	if again < ends {
		t.Errorf("P15.4: %d came again: too few to tell much", again)
	}
}

// P15.4: one that polls now and then, for a few at once, is told each Version of each key in its span once, in order, or that it is compacted.
func TestFeedGoesOn(t *testing.T) {
	ends := map[bool]int{}
	for _, p := range []api.Span{all, sp("a", "b"), sp("b", "z"), sp("", "ab")} {
		for credit := 1; credit <= 10; credit++ {
			for pause := 1; pause <= 30; pause++ {
				ends[goesOn(t, p, credit, pause)]++
			}
		}
	}
	if min(ends[true], ends[false]) < 100 {
		t.Errorf("P15.4: %v: too few to tell much", ends)
	}
}

// goesOn: whether it was compacted.
func goesOn(t *testing.T, sp api.Span, credit, pause int) bool {
	t.Helper()
	s, p, versions, told := shard.New(1, 1, api.Span{From: "a", To: "n"}), &past{}, map[string]int{}, 0
	for i := range 200 {
		o := put([]string{"a", "b", "m"}[i*i%7%3], strconv.Itoa(i))
		s, _, _ = shard.Ask(s, i%3, i+1, o)
		p.do(o)
		if i%pause != 0 {
			continue
		}
		token := seen{saw("a", versions["a"]), saw("b", versions["b"]), saw("m", versions["m"])}
		news := slices.DeleteFunc(slices.Clone(p.all), func(e api.Event) bool { return !isIn(sp, e.Key) })[told:]
		lacks := slices.ContainsFunc(p.all[:p.went], func(e api.Event) bool { return isIn(sp, e.Key) && e.Version > versions[e.Key] })
		l, compacted := shard.Feed(s, sp, token, credit)
		if compacted != lacks || !lacks && !slices.Equal(l, news[:min(credit, 8, len(news))]) {
			t.Fatalf("P15.4: %q, credit %d, pause %d, step %d: %#v, %v, behind %d", sp, credit, pause, i, l, compacted, told)
		}
		if compacted {
			return true
		}
		for _, e := range l {
			versions[e.Key]++
			if e.Version != versions[e.Key] {
				t.Fatalf("P15.4: %q, credit %d, pause %d, step %d: %#v isn't the very next one", sp, credit, pause, i, e)
			}
		}
		told += len(l)
	}
	return false
}

// P15.1, P15.2, P15.3: of long lists, which aren't Is, too, each call comes back soon.
func TestLongLists(t *testing.T) {
	s := shard.New(1, 1, all)
	most := 100000
	for i := range most {
		k := string([]byte{byte(i >> 16), byte(i >> 8), byte(i)})
		s.Cells = append(s.Cells, is(k, "v", 1, 1))
		s.Events = append(s.Events, was(k, 1, "v"))
		s.Done = append(s.Done, did(i, 1, at(1)))
	}
	if shard.Is(s) || !shard.Same(s, copies(s)) || shard.Same(s, kept(noted(s), 3)) {
		t.Error("P15.1: Is, Same of long lists")
	}
	last := s.Cells[most-1].Key
	if got, a, n := shard.Ask(s, most-1, 2, put(last, "n")); a.Version != 2 || n != 0 || len(got.Cells) != most || len(got.Events) != api.MaxHistory || got.Done[most-1].ID != 2 {
		t.Errorf("P15.3: Ask of long lists: %#v, %d", a, n)
	}
	if l, compacted := shard.Feed(s, sp(last, ""), seen{saw(last, 1)}, 8); len(l) > 0 || compacted {
		t.Errorf("P15.3: Feed of long lists: %#v, %v", l, compacted)
	}
	s.Events, s.Done = nil, nil
	if !shard.Is(s) {
		t.Error("P15.1: Is of many cells")
	}
}
