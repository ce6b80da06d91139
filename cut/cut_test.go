package cut_test

import (
	"errors"
	"math"
	"slices"
	"strconv"
	"strings"
	"testing"

	"estuary/api"
	"estuary/cut"
	"estuary/fault"
	"estuary/op"
	"estuary/shard"
)

type cells = []api.Cell

type events = []api.Event

type dones = []api.Done

type seen = []api.Seen

var (
	longest = strings.Repeat("k", api.MaxKey)
	tooLong = strings.Repeat("k", api.MaxKey+1)
	fullest = strings.Repeat("v", api.MaxValue)
	tooMuch = strings.Repeat("v", api.MaxValue+1)
	all     = api.Span{}
	none    = api.Shard{}
)

func sp(from, to string) api.Span { return api.Span{From: from, To: to} }

// is, gone: cells that were put, deleted.
func is(key, value string, version, floor int) api.Cell {
	return api.Cell{Key: key, Value: value, Version: version, Floor: floor}
}

func gone(key string, version, floor int) api.Cell {
	return api.Cell{Key: key, Version: version, Del: true, Floor: floor}
}

// was, wasDel: events.
func was(key string, version int, value string) api.Event {
	return api.Event{Key: key, Version: version, Value: value}
}

func wasDel(key string, version int) api.Event {
	return api.Event{Key: key, Version: version, Del: true}
}

// did: a request and the Version that it was answered.
func did(session, id, version int) api.Done {
	return api.Done{Session: session, ID: id, Answer: api.Answer{Version: version}}
}

// didRows: a request that was answered by so many rows; an answer may have any.
func didRows(session, id, n int) api.Done {
	d := did(session, id, 0)
	for i := range n {
		d.Answer.Rows = append(d.Answer.Rows, api.Row{Key: "row" + strconv.Itoa(i), Version: i})
	}
	return d
}

// bay: a shard of five keys: put, deleted, and without events; the events of two keys are among one another.
func bay() api.Shard {
	return api.Shard{ID: 7, Epoch: 3, Span: sp("b", "p"),
		Cells:  cells{is("b", "x", 2, 0), gone("d", 4, 2), is("g", "y", 7, 7), is("m", "z", 2, 1), gone("o", 1, 1)},
		Events: events{was("d", 3, "v"), was("b", 1, "w"), was("m", 2, "z"), wasDel("d", 4), was("b", 2, "x")},
		Done:   dones{did(0, 3, 2), didRows(2, 5, 2)}}
}

// cape: what touches bay from above.
func cape() api.Shard {
	return api.Shard{ID: 9, Epoch: 5, Span: sp("p", ""),
		Cells:  cells{is("p", "x", 3, 0), is("q", fullest, api.MaxRev, api.MaxRev), gone("s", 2, 1)},
		Events: events{was("p", 1, ""), wasDel("s", 2), wasDel("p", 2), was("p", 3, "x")},
		Done:   dones{did(0, 2, 9), did(1, 1, 8), didRows(2, 5, 3)}}
}

// spent: all as great as may be, with keys of any bytes.
func spent() api.Shard {
	return api.Shard{ID: api.MaxRev, Epoch: api.MaxEpoch, Span: sp("\x00", strings.Repeat("\xff", api.MaxKey)),
		Cells:  cells{is("\x00", fullest, api.MaxRev, api.MaxRev), is(longest, fullest, api.MaxRev, api.MaxRev-1), gone("\xff\xfe", api.MaxRev, api.MaxRev)},
		Events: events{was(longest, api.MaxRev, fullest)},
		Done:   dones{didRows(0, api.MaxRev, 1), did(1, 1, 0), didRows(2, api.MaxRev, api.MaxRows)}}
}

// long: a shard of three keys with so many events by turns, all there are.
func long(from, to string, n int) api.Shard {
	s := shard.New(2, 1, sp(from, to))
	for i, end := range []string{"", "1", "2"} {
		var c api.Cell
		for at := i; at < n; at += 3 {
			c = is(from+end, strconv.Itoa(at), at/3+1, 0)
		}
		if c.Version > 0 {
			s.Cells = append(s.Cells, c)
		}
	}
	for at := range n {
		s.Events = append(s.Events, was(from+[]string{"", "1", "2"}[at%3], at/3+1, strconv.Itoa(at)))
	}
	return s
}

// many: so many cells without events.
func many(from, to string, n int) api.Shard {
	s := shard.New(5, 6, sp(from, to))
	for i := range n {
		s.Cells = append(s.Cells, is(from+string([]byte{byte(i >> 16), byte(i >> 8), byte(i)}), "v", 1, 1))
	}
	return s
}

func of(s api.Shard, p api.Span) api.Shard {
	s.Span = p
	return s
}

func frozen(s api.Shard) api.Shard {
	s.Frozen = true
	return s
}

func noted(s api.Shard, l ...api.Done) api.Shard {
	s.Done = l
	return s
}

// shards: all Is and none Frozen.
func shards() []api.Shard {
	l := []api.Shard{bay(), of(bay(), all), of(bay(), sp("b", "")), of(bay(), sp("", "p")), of(bay(), sp("a", "o\x00")), cape(), of(cape(), sp("p", "t")), spent(), shard.New(1, 1, all), shard.New(8, 9, sp("", "b")), shard.New(api.MaxRev, api.MaxEpoch, sp("b", "b\x00")), noted(shard.New(3, 1, sp("d", "")), did(1, 4, 4)), noted(shard.New(3, 1, sp("", "d")), did(1, 4, 5), did(2, 1, 1)), many("p", "t", 300)}
	for _, n := range []int{1, 2, 11, 12, 13, 23, 24} {
		l = append(l, long("b", "d", n), long("d", "f", n), noted(long("p", "", n), did(0, n, n)))
	}
	return l
}

// wrongs: what isn't Is, or is Frozen.
func wrongs() []api.Shard {
	l := []api.Shard{none, frozen(bay()), frozen(cape()), frozen(shard.New(1, 1, all)), shard.New(0, 1, all), shard.New(-1, 1, all), shard.New(api.MaxRev+1, 1, all), shard.New(1, 0, all), shard.New(1, api.MaxEpoch+1, all), of(bay(), sp("p", "b")), of(bay(), sp("c", "p")), of(bay(), sp("b", "o")), of(bay(), sp("a"+tooLong, "p")), of(bay(), sp("b", "p"+tooLong)), long("p", "", 25), noted(bay(), did(0, 1, 1), did(0, 2, 2)), noted(cape(), did(3, 1, 1)), noted(cape(), did(1, 0, 1)), noted(bay(), did(1, 1, -1)), noted(cape(), didRows(1, 1, 17))}
	for _, s := range []api.Shard{bay(), cape()} {
		less, more, other, back := s, s, s, s
		less.Events, more.Events = s.Events[1:], append(slices.Clone(s.Events), was("g", 9, "v"))
		other.Cells, back.Cells = slices.Clone(s.Cells), slices.Clone(s.Cells)
		other.Cells[0].Value = "other"
		slices.Reverse(back.Cells)
		l = append(l, less, more, other, back)
	}
	return l
}

// keys: of all sorts, wrong ones too.
func keys() []string {
	return []string{"", "\x00", "a", "b", "b\x00", "b1", "b11", "b2", "c", "d", "d\x00", "d1", "dzzzzzzz", "dzzzzzzzz", "g", longest, tooLong, "m", "o", "o\x00", "p", "p1", "p\x00\x00\x07", "p\x00\x01", "q", "s", "s\x00", "t", "z", "\xff\xfe", strings.Repeat("\xff", 7), strings.Repeat("\xff", 8), strings.Repeat("\xff", 9)}
}

// numbers: good and wrong ones.
func numbers() []int {
	return []int{1, 2, 7, api.MaxRev - 1, api.MaxRev, 0, -1, api.MaxRev + 1, math.MaxInt, math.MinInt}
}

// isNumber, wantSplit, wantJoin: the document's words once more, in another way than the program's.
func isNumber(n int) bool { return 0 < n && n < 1000000000001 }

func wantSplit(s api.Shard, key string, a, b int) (api.Shard, api.Shard, api.Errno) {
	switch {
	case !shard.Is(s) || s.Frozen || !isNumber(a) || !isNumber(b) || a == b:
		return none, none, api.ErrForm
	case len(key) > 8 || key <= s.Span.From || s.Span.To != "" && s.Span.To <= key:
		return none, none, api.ErrOrder
	}
	lo := api.Shard{ID: a, Epoch: 1, Span: sp(s.Span.From, key), Done: s.Done}
	hi := api.Shard{ID: b, Epoch: 1, Span: sp(key, s.Span.To), Done: s.Done}
	at, _ := slices.BinarySearchFunc(s.Cells, key, func(c api.Cell, k string) int { return strings.Compare(c.Key, k) })
	lo.Cells, hi.Cells = s.Cells[:at], s.Cells[at:]
	lo.Events = slices.DeleteFunc(slices.Clone(s.Events), func(e api.Event) bool { return e.Key >= key })
	hi.Events = slices.DeleteFunc(slices.Clone(s.Events), func(e api.Event) bool { return e.Key < key })
	return lo, hi, api.OK
}

func wantJoin(lo, hi api.Shard, id int) (api.Shard, api.Errno) {
	switch {
	case !shard.Is(lo) || lo.Frozen || !shard.Is(hi) || hi.Frozen || !isNumber(id):
		return none, api.ErrForm
	case lo.Span.To == "" || lo.Span.To != hi.Span.From:
		return none, api.ErrOrder
	}
	s := api.Shard{ID: id, Epoch: 1, Span: sp(lo.Span.From, hi.Span.To), Cells: append(slices.Clone(lo.Cells), hi.Cells...), Events: append(slices.Clone(lo.Events), hi.Events...)}
	s.Events = s.Events[max(0, len(s.Events)-24):]
	for i, c := range s.Cells { // as there are all above the Floor
		s.Cells[i].Floor = c.Version - len(ofKey(s.Events, c.Key))
	}
	for session := range 3 {
		best := api.Done{}
		for _, d := range append(slices.Clone(lo.Done), hi.Done...) {
			if d.Session == session && d.ID > best.ID {
				best = d
			}
		}
		if best.ID > 0 {
			s.Done = append(s.Done, best)
		}
	}
	return s, api.OK
}

// ofKey: the events of that Key, in order.
func ofKey(l events, key string) events {
	return slices.DeleteFunc(slices.Clone(l), func(e api.Event) bool { return e.Key != key })
}

// isCode: whether err is what the document means by an error with this Code, and by no other one.
func isCode(err error, code api.Errno) bool {
	if code == api.OK {
		return err == nil
	}
	for other := api.ErrForm; other <= api.ErrLine; other++ {
		if errors.Is(err, other) != (other == code) {
			return false
		}
	}
	return fault.Code(err) == code && err.Error() != ""
}

// isSplit: Split, held against the document's words.
func isSplit(t *testing.T, s api.Shard, key string, a, b int) (api.Shard, api.Shard) {
	t.Helper()
	lo, hi, err := cut.Split(s, key, a, b)
	wantLo, wantHi, code := wantSplit(s, key, a, b)
	if !shard.Same(lo, wantLo) || !shard.Same(hi, wantHi) || !isCode(err, code) || code == api.OK && !(shard.Is(lo) && shard.Is(hi)) {
		t.Fatalf("P17.1: Split(%#v, %q, %d, %d): %#v, %#v, %v; not %#v, %#v, %d", s, key, a, b, lo, hi, err, wantLo, wantHi, code)
	}
	return lo, hi
}

// isJoin: likewise.
func isJoin(t *testing.T, lo, hi api.Shard, id int) api.Shard {
	t.Helper()
	s, err := cut.Join(lo, hi, id)
	want, code := wantJoin(lo, hi, id)
	if !shard.Same(s, want) || !isCode(err, code) || code == api.OK && !shard.Is(s) {
		t.Fatalf("P17.1: Join(%#v, %#v, %d): %#v, %v; not %#v, %d", lo, hi, id, s, err, want, code)
	}
	return s
}

// P17.1: part by part: at a key that is there, at one that isn't, with all on one side, and of nothing.
func TestSplit(t *testing.T) {
	s, done := bay(), bay().Done
	part := func(id int, p api.Span, c cells, e events) api.Shard {
		return api.Shard{ID: id, Epoch: 1, Span: p, Cells: c, Events: e, Done: done}
	}
	for _, x := range []struct {
		s      api.Shard
		key    string
		a, b   int
		lo, hi api.Shard
	}{
		{s, "g", 11, 12, part(11, sp("b", "g"), cells{is("b", "x", 2, 0), gone("d", 4, 2)}, events{was("d", 3, "v"), was("b", 1, "w"), wasDel("d", 4), was("b", 2, "x")}),
			part(12, sp("g", "p"), cells{is("g", "y", 7, 7), is("m", "z", 2, 1), gone("o", 1, 1)}, events{was("m", 2, "z")})},
		{s, "c", 2, 1, part(2, sp("b", "c"), cells{is("b", "x", 2, 0)}, events{was("b", 1, "w"), was("b", 2, "x")}),
			part(1, sp("c", "p"), cells{gone("d", 4, 2), is("g", "y", 7, 7), is("m", "z", 2, 1), gone("o", 1, 1)}, events{was("d", 3, "v"), was("m", 2, "z"), wasDel("d", 4)})},
		{s, "o\x00", 7, api.MaxRev, part(7, sp("b", "o\x00"), s.Cells, s.Events), part(api.MaxRev, sp("o\x00", "p"), nil, nil)},
		{of(s, sp("a", "")), "b", api.MaxRev, 7, part(api.MaxRev, sp("a", "b"), nil, nil), part(7, sp("b", ""), s.Cells, s.Events)},
		{of(s, all), "m", 1, 2, part(1, sp("", "m"), s.Cells[:3], events{s.Events[0], s.Events[1], s.Events[3], s.Events[4]}), part(2, sp("m", ""), s.Cells[3:], s.Events[2:3])},
		{shard.New(4, 9, all), longest, 5, 6, shard.New(5, 1, sp("", longest)), shard.New(6, 1, sp(longest, ""))},
		{shard.New(4, 9, all), "\x00", 5, 6, shard.New(5, 1, sp("", "\x00")), shard.New(6, 1, sp("\x00", ""))},
	} {
		lo, hi, err := cut.Split(x.s, x.key, x.a, x.b)
		if !shard.Same(lo, x.lo) || !shard.Same(hi, x.hi) || err != nil {
			t.Errorf("P17.1: Split(%#v, %q, %d, %d): %#v, %#v, %v", x.s, x.key, x.a, x.b, lo, hi, err)
		}
		isSplit(t, x.s, x.key, x.a, x.b)
	}
}

// P17.1: a row an error, and those where both apply: what is ill-formed is told first.
func TestSplitErrors(t *testing.T) {
	for _, x := range []struct {
		name string
		s    api.Shard
		key  string
		a, b int
		code api.Errno
	}{
		{"good", bay(), "g", 1, 2, api.OK}, {"its own number", bay(), "g", 7, 8, api.OK}, {"its own number above", bay(), "g", 8, 7, api.OK}, {"greatest", bay(), "g", api.MaxRev, api.MaxRev - 1, api.OK},
		{"frozen", frozen(bay()), "g", 1, 2, api.ErrForm}, {"no shard", none, "g", 1, 2, api.ErrForm}, {"no Span", of(bay(), sp("p", "b")), "g", 1, 2, api.ErrForm}, {"events lack", noEvents(bay()), "g", 1, 2, api.ErrForm}, {"wrong Done", noted(bay(), did(3, 1, 1)), "g", 1, 2, api.ErrForm},
		{"one number", bay(), "g", 1, 1, api.ErrForm}, {"one greatest number", bay(), "g", api.MaxRev, api.MaxRev, api.ErrForm}, {"a 0", bay(), "g", 0, 2, api.ErrForm}, {"b 0", bay(), "g", 1, 0, api.ErrForm}, {"a below", bay(), "g", -1, 2, api.ErrForm}, {"b below", bay(), "g", 1, math.MinInt, api.ErrForm}, {"a above", bay(), "g", api.MaxRev + 1, 2, api.ErrForm}, {"b above", bay(), "g", 1, api.MaxRev + 1, api.ErrForm}, {"both wrong", bay(), "g", 0, 0, api.ErrForm},
		{"no key", bay(), "", 1, 2, api.ErrOrder}, {"long key", bay(), "g" + tooLong, 1, 2, api.ErrOrder}, {"one byte more", of(bay(), all), tooLong, 1, 2, api.ErrOrder}, {"at From", bay(), "b", 1, 2, api.ErrOrder}, {"below", bay(), "a", 1, 2, api.ErrOrder}, {"at To", bay(), "p", 1, 2, api.ErrOrder}, {"above", bay(), "q", 1, 2, api.ErrOrder}, {"just above From", bay(), "b\x00", 1, 2, api.OK}, {"just below To", bay(), "o\xff\xff\xff\xff\xff\xff\xff", 1, 2, api.OK}, {"no key of all", of(bay(), all), "", 1, 2, api.ErrOrder}, {"nowhere", shard.New(1, 1, sp("b", "b\x00")), "b\x00", 1, 2, api.ErrOrder},
		{"frozen, at From", frozen(bay()), "b", 1, 2, api.ErrForm}, {"no shard, no key", none, "", 1, 2, api.ErrForm}, {"no Span, at To", of(bay(), sp("p", "b")), "b", 1, 2, api.ErrForm}, {"one number, at To", bay(), "p", 3, 3, api.ErrForm}, {"a 0, no key", bay(), "", 0, 1, api.ErrForm}, {"b above, long key", bay(), tooLong, 1, math.MaxInt, api.ErrForm},
	} {
		lo, hi, err := cut.Split(x.s, x.key, x.a, x.b)
		if !isCode(err, x.code) || err != nil && !(shard.Same(lo, none) && shard.Same(hi, none)) {
			t.Errorf("P17.1: %s: %#v, %#v, %v", x.name, lo, hi, err)
		}
	}
}

func noEvents(s api.Shard) api.Shard {
	s.Events = nil
	return s
}

// P17.1: of all shards, keys and numbers, good and wrong.
func TestSplitOfAll(t *testing.T) {
	good := 0
	for _, s := range append(shards(), wrongs()...) {
		for _, key := range keys() {
			for _, a := range numbers() {
				for _, b := range numbers() {
					if lo, _ := isSplit(t, s, key, a, b); lo.ID > 0 {
						good++
					}
				}
			}
		}
	}
	if good < 1000 {
		t.Errorf("P17.1: %d good ones: too few to tell much", good)
	}
}

// P17.1: part by part: cells, events and Done of both, and of one.
func TestJoin(t *testing.T) {
	lo, hi := bay(), cape()
	best := dones{did(0, 3, 2), did(1, 1, 8), didRows(2, 5, 2)} // of session 2 both have request 5
	for _, x := range []struct {
		lo, hi api.Shard
		id     int
		want   api.Shard
	}{
		{lo, hi, 20, api.Shard{ID: 20, Epoch: 1, Span: sp("b", ""),
			Cells:  cells{is("b", "x", 2, 0), gone("d", 4, 2), is("g", "y", 7, 7), is("m", "z", 2, 1), gone("o", 1, 1), is("p", "x", 3, 0), is("q", fullest, api.MaxRev, api.MaxRev), gone("s", 2, 1)},
			Events: events{was("d", 3, "v"), was("b", 1, "w"), was("m", 2, "z"), wasDel("d", 4), was("b", 2, "x"), was("p", 1, ""), wasDel("s", 2), wasDel("p", 2), was("p", 3, "x")},
			Done:   best}},
		{lo, shard.New(1, 9, sp("p", "r")), 7, api.Shard{ID: 7, Epoch: 1, Span: sp("b", "r"), Cells: lo.Cells, Events: lo.Events, Done: lo.Done}},
		{shard.New(1, 9, sp("", "p")), hi, api.MaxRev, api.Shard{ID: api.MaxRev, Epoch: 1, Span: all, Cells: hi.Cells, Events: hi.Events, Done: hi.Done}},
		{shard.New(1, 1, sp("", longest)), shard.New(2, 1, sp(longest, "")), 1, shard.New(1, 1, all)},
		{shard.New(1, 1, sp("", "\x00")), shard.New(2, 1, sp("\x00", "b")), 1, shard.New(1, 1, sp("", "b"))},
		{noted(shard.New(1, 1, sp("", "b")), did(0, 5, 1), did(1, 4, 1), did(2, 3, 1)), noted(shard.New(1, 1, sp("b", "")), did(0, 4, 2), did(1, 4, 2), did(2, 4, 2)), 3, noted(shard.New(3, 1, all), did(0, 5, 1), did(1, 4, 1), did(2, 4, 2))},
		{noted(shard.New(1, 1, sp("", "b")), did(1, 4, 1)), noted(shard.New(2, 1, sp("b", "")), did(0, 4, 2), did(2, 4, 2)), 3, noted(shard.New(3, 1, all), did(0, 4, 2), did(1, 4, 1), did(2, 4, 2))},
	} {
		got, err := cut.Join(x.lo, x.hi, x.id)
		if !shard.Same(got, x.want) || err != nil {
			t.Errorf("P17.1: Join(%#v, %#v, %d): %#v, %v", x.lo, x.hi, x.id, got, err)
		}
		isJoin(t, x.lo, x.hi, x.id)
	}
}

// P17.1: at MaxHistory events all stay; of more the first ones go, lo's ahead of hi's, and what goes raises the Floors.
func TestJoinKeeps(t *testing.T) {
	for _, x := range []struct {
		lo, hi int
		floors []int // of b, b1, b2, d, d1, d2
	}{
		{12, 12, []int{0, 0, 0, 0, 0, 0}}, {24, 3, []int{1, 1, 1, 0, 0, 0}}, {13, 12, []int{1, 0, 0, 0, 0, 0}}, {12, 13, []int{1, 0, 0, 0, 0, 0}}, {14, 12, []int{1, 1, 0, 0, 0, 0}}, {24, 23, []int{8, 8, 7, 0, 0, 0}}, {24, 24, []int{8, 8, 8, 0, 0, 0}}, {3, 24, []int{1, 1, 1, 0, 0, 0}}, {3, 22, []int{1, 0, 0, 0, 0, 0}},
	} {
		lo, hi := long("b", "d", x.lo), long("d", "f", x.hi)
		s := isJoin(t, lo, hi, 3)
		var floors []int
		for _, c := range s.Cells {
			floors = append(floors, c.Floor)
		}
		if stay := min(24, x.lo+x.hi); len(s.Events) != stay || s.Events[stay-1] != hi.Events[x.hi-1] || s.Events[0] != lo.Events[min(x.lo-1, max(0, x.lo+x.hi-24))] && x.hi < 24 || !slices.Equal(floors, x.floors) {
			t.Errorf("P17.1: Join of %d and %d events: %#v", x.lo, x.hi, s)
		}
	}
}

// P17.1: likewise a row an error.
func TestJoinErrors(t *testing.T) {
	lo, hi := bay(), cape()
	for _, x := range []struct {
		name   string
		lo, hi api.Shard
		id     int
		code   api.Errno
	}{
		{"good", lo, hi, 1, api.OK}, {"lo's number", lo, hi, lo.ID, api.OK}, {"hi's number", lo, hi, hi.ID, api.OK}, {"greatest", lo, hi, api.MaxRev, api.OK}, {"of one number", lo, shard.New(lo.ID, 1, sp("p", "")), 3, api.OK},
		{"lo frozen", frozen(lo), hi, 1, api.ErrForm}, {"hi frozen", lo, frozen(hi), 1, api.ErrForm}, {"both frozen", frozen(lo), frozen(hi), 1, api.ErrForm}, {"no lo", none, hi, 1, api.ErrForm}, {"no hi", lo, none, 1, api.ErrForm}, {"lo's events lack", noEvents(lo), hi, 1, api.ErrForm}, {"hi's events lack", lo, noEvents(hi), 1, api.ErrForm}, {"lo's Done", noted(lo, did(0, 0, 0)), hi, 1, api.ErrForm}, {"hi's Done", lo, noted(hi, did(0, 0, 0)), 1, api.ErrForm},
		{"0", lo, hi, 0, api.ErrForm}, {"below", lo, hi, -1, api.ErrForm}, {"far below", lo, hi, math.MinInt, api.ErrForm}, {"above", lo, hi, api.MaxRev + 1, api.ErrForm}, {"far above", lo, hi, math.MaxInt, api.ErrForm},
		{"other order", hi, lo, 1, api.ErrOrder}, {"itself", lo, lo, 1, api.ErrOrder}, {"all twice", shard.New(1, 1, all), shard.New(2, 1, all), 1, api.ErrOrder}, {"open end, open start", shard.New(1, 1, sp("b", "")), shard.New(2, 1, sp("", "b")), 1, api.ErrOrder}, {"a gap", lo, shard.New(1, 1, sp("p\x00", "")), 1, api.ErrOrder}, {"over one another", lo, shard.New(1, 1, sp("o\xff", "")), 1, api.ErrOrder}, {"within", shard.New(1, 1, all), lo, 1, api.ErrOrder},
		{"other order, frozen", frozen(hi), lo, 1, api.ErrForm}, {"other order, the other one frozen", hi, frozen(lo), 1, api.ErrForm}, {"other order, 0", hi, lo, 0, api.ErrForm}, {"none", none, none, 0, api.ErrForm}, {"a gap, no hi", lo, shard.New(0, 1, sp("q", "")), 1, api.ErrForm}, {"wrong Spans that touch", of(bay(), sp("p", "b")), of(bay(), sp("b", "a")), 1, api.ErrForm},
	} {
		s, err := cut.Join(x.lo, x.hi, x.id)
		if !isCode(err, x.code) || err != nil && !shard.Same(s, none) {
			t.Errorf("P17.1: %s: %#v, %v", x.name, s, err)
		}
	}
}

// P17.1: of all pairs of shards, good and wrong, and all numbers.
func TestJoinOfAll(t *testing.T) {
	good, l := 0, append(shards(), wrongs()...)
	for _, lo := range l {
		for _, hi := range l {
			for _, id := range numbers() {
				if isJoin(t, lo, hi, id).ID > 0 {
					good++
				}
			}
		}
	}
	if good < 300 {
		t.Errorf("P17.1: %d good ones: too few to tell much", good)
	}
}

// isAsItWas: whether all that s had is in got, but for the numbers, and the order of events of unlike Keys.
func isAsItWas(s, got api.Shard) bool {
	for _, c := range s.Cells {
		if !slices.Equal(ofKey(s.Events, c.Key), ofKey(got.Events, c.Key)) {
			return false
		}
	}
	if len(s.Events) != len(got.Events) || !shard.Is(got) {
		return false
	}
	s.ID, s.Epoch, s.Events = got.ID, 1, got.Events
	return shard.Same(s, got)
}

// P17.2: what is cut and joined is as it was, at whatever key.
func TestThereAndBack(t *testing.T) {
	cuts := 0
	for _, s := range shards() {
		for _, key := range keys() {
			lo, hi, err := cut.Split(s, key, 1, 2)
			if err != nil {
				continue
			}
			cuts++
			got, err := cut.Join(lo, hi, 3)
			if err != nil || !isAsItWas(s, got) {
				t.Fatalf("P17.2: cut at %q and joined: %#v, %v; not %#v", key, got, err, s)
			}
		}
	}
	if cuts < 100 {
		t.Errorf("P17.2: %d cuts: too few to tell much", cuts)
	}
}

// P17.2: cut into as many as there are keys, and joined in all orders of three: as it was.
func TestManyCuts(t *testing.T) {
	for _, s := range shards() {
		var parts []api.Shard
		for _, key := range slices.Compact(slices.Sorted(slices.Values(keys()))) {
			lo, hi, err := cut.Split(s, key, 1, 2)
			if err == nil {
				parts, s = append(parts, lo), hi
			}
		}
		from := append(parts, s)
		if len(from) == 1 {
			continue
		}
		whole := together(from)
		for turn := range 3 {
			for parts = slices.Clone(from); len(parts) > 1; {
				at := []int{0, len(parts) - 2, len(parts) / 3}[turn]
				parts = slices.Replace(parts, at, at+2, isJoin(t, parts[at], parts[at+1], len(parts)))
			}
			if !isAsItWas(whole, parts[0]) {
				t.Fatalf("P17.2: turn %d: %#v, not %#v", turn, parts[0], whole)
			}
		}
	}
}

// together: parts of one shard as one, by the document's words: each of them has all Done.
func together(l []api.Shard) api.Shard {
	s := api.Shard{Epoch: 1, Span: sp(l[0].Span.From, l[len(l)-1].Span.To), Done: l[0].Done}
	for _, x := range l {
		s.Cells, s.Events = append(s.Cells, x.Cells...), append(s.Events, x.Events...)
	}
	return s
}

// P17.2: of a key the part that it is in tells what the whole told: what there is, what has happened, what was done.
func TestPartsTell(t *testing.T) {
	for _, s := range shards() {
		for _, at := range keys() {
			lo, hi, err := cut.Split(s, at, 1, 2)
			if err != nil {
				continue
			}
			for _, key := range keys() {
				part := hi
				if key < at {
					part = lo
				}
				get := api.Op{Kind: api.OGet, Key: key}
				_, want := shard.Do(s, get)
				if _, got := shard.Do(part, get); !op.SameAnswer(got, want) {
					t.Fatalf("P17.2: cut at %q: get of %q: %#v, not %#v", at, key, got, want)
				}
				for version := range 10 {
					p, token := sp(key, key+"\x00"), seen{{Key: key, Version: version}}
					want, lacks := shard.Feed(s, p, token, 8)
					if got, compacted := shard.Feed(part, p, token, 8); !slices.Equal(got, want) || compacted != lacks {
						t.Fatalf("P17.2: cut at %q: feed of %q behind %d: %#v, %v, not %#v, %v", at, key, version, got, compacted, want, lacks)
					}
				}
			}
			for _, d := range s.Done {
				for _, part := range []api.Shard{lo, hi} {
					put := api.Op{Kind: api.OPut, Key: "b", Value: "again"}
					if _, a, n := shard.Ask(part, d.Session, d.ID, put); n != 1 || !op.SameAnswer(a, d.Answer) {
						t.Fatalf("P17.2: cut at %q: %#v once more at %d: %#v, %d", at, d, part.ID, a, n)
					}
				}
			}
		}
	}
}

// store: shards in order of their Spans, and one that is never cut beside them, of which nothing is asked twice.
type store struct {
	t      *testing.T
	shards []api.Shard
	whole  api.Shard
	number int
	first  map[[2]int]api.Answer // what each request was answered first
}

func newStore(t *testing.T) *store {
	return &store{t, []api.Shard{shard.New(1, 1, all)}, shard.New(1, 1, all), 1, map[[2]int]api.Answer{}}
}

func (s *store) at(key string) int {
	return slices.IndexFunc(s.shards, func(x api.Shard) bool { return x.Span.To == "" || key < x.Span.To })
}

// split: where there is a cut at key already there is none.
func (s *store) split(key string) {
	at := s.at(key)
	lo, hi, err := cut.Split(s.shards[at], key, s.number+1, s.number+2)
	if isCode(err, api.ErrOrder) {
		return
	}
	s.number += 2
	s.shards = slices.Replace(s.shards, at, at+1, lo, hi)
}

// join: the shard of key and the one above it, if there is one.
func (s *store) join(key string) {
	at := s.at(key)
	if at == len(s.shards)-1 {
		return
	}
	x, err := cut.Join(s.shards[at], s.shards[at+1], s.number+1)
	if err != nil {
		s.t.Fatalf("P17.2: Join(%#v, %#v): %v", s.shards[at], s.shards[at+1], err)
	}
	s.number++
	s.shards = slices.Replace(s.shards, at, at+2, x)
}

// ask: a request takes effect once at most, and is answered by what the one that is never cut answers.
func (s *store) ask(session, id int, o api.Op) {
	s.t.Helper()
	at, request := s.at(op.Key(o)), [2]int{session, id}
	x, a, n := shard.Ask(s.shards[at], session, id, o)
	first, was := s.first[request]
	switch n {
	case 0:
		whole, want := shard.Do(s.whole, o)
		if a.Code == int(api.ErrSplit) {
			whole, want = s.whole, a
		}
		if was || !op.SameAnswer(a, want) {
			s.t.Fatalf("P17.2: request %v, done before: %v: %#v: %#v, not %#v", request, was, o, a, want)
		}
		s.first[request], s.whole = a, whole
	case 1:
		if !was || !op.SameAnswer(a, first) {
			s.t.Fatalf("P17.2: request %v once more: %#v: %#v, not %#v", request, o, a, first)
		}
	}
	s.shards[at] = x
}

// holds: all cells are what those of the one that is never cut are, but for Floors; and all that any shard has is Is.
func (s *store) holds() {
	s.t.Helper()
	from := ""
	var l cells
	for i, x := range s.shards {
		if !shard.Is(x) || x.Frozen || x.Span.From != from || (x.Span.To == "") != (i == len(s.shards)-1) {
			s.t.Fatalf("P17.2: shard %d: %#v", i, x)
		}
		l, from = append(l, x.Cells...), x.Span.To
	}
	same := func(a, b api.Cell) bool {
		a.Floor, b.Floor = 0, 0
		return a == b
	}
	if !slices.EqualFunc(l, s.whole.Cells, same) {
		s.t.Fatalf("P17.2: %#v, not %#v", l, s.whole.Cells)
	}
}

// P17.2: by all orders of requests, cuts and joins, each as often as may be: each request takes effect once at most, and what took effect is there.
func TestStoreOfAll(t *testing.T) {
	put := func(key, value string) api.Op { return api.Op{Kind: api.OPut, Key: key, Value: value} }
	steps := []func(s *store){
		func(s *store) { s.ask(0, 1, put("a", "1")) }, func(s *store) { s.ask(0, 2, put("m", "2")) }, func(s *store) { s.ask(1, 1, api.Op{Kind: api.ODel, Key: "a"}) },
		func(s *store) {
			s.ask(1, 2, api.Op{Kind: api.OBatch, Writes: []api.Write{{Key: "a", Value: "b"}, {Key: "m", Value: "b"}}})
		},
		func(s *store) { s.split("c") }, func(s *store) { s.split("a") }, func(s *store) { s.join("") }, func(s *store) { s.join("c") },
	}
	for end := range 1 << 18 { // its digits of three bits are the steps
		s := newStore(t)
		for i := range 6 {
			steps[end>>(3*i)%8](s)
		}
		s.holds()
		for _, x := range s.shards {
			for _, c := range x.Cells {
				if !slices.Equal(ofKey(x.Events, c.Key), ofKey(s.whole.Events, c.Key)) {
					t.Fatalf("P17.2: row %d: of %q: %#v, not %#v", end, c.Key, x.Events, s.whole.Events)
				}
			}
		}
	}
}

// P17.2: by a long row of changes, cuts and joins: one that polls now and then is told each Version of each key, the very next one each time, or that it is compacted, and that only where it must be.
func TestStoreGoesOn(t *testing.T) {
	names, ends := []string{"a", "b", "m", "n", "x"}, map[bool]int{}
	for pause := 1; pause <= 40; pause++ {
		s, versions, over := newStore(t), map[string]int{}, map[string]bool{}
		for i := range 600 {
			key := names[i*i%11%5]
			s.ask(i%3, i/3+1, api.Op{Kind: api.OPut, Key: key, Value: strconv.Itoa(i)})
			if late := i - 3; late >= 0 {
				s.ask(late%3, late/3+1, api.Op{Kind: api.OPut, Key: names[late*late%11%5], Value: "late"})
			}
			switch i % 13 {
			case 3, 7:
				s.split(names[i%5])
			case 5, 11:
				s.join(names[i%4])
			}
			if i%pause == 0 {
				for _, x := range s.shards {
					poll(t, x, versions, over)
				}
			}
		}
		s.holds()
		for _, key := range names {
			ends[over[key]]++
		}
	}
	if min(ends[true], ends[false]) < 50 {
		t.Errorf("P17.2: %v: too few to tell much", ends)
	}
}

// poll: key by key, for all that there is of each.
func poll(t *testing.T, s api.Shard, versions map[string]int, over map[string]bool) {
	t.Helper()
	for _, c := range s.Cells {
		for more := true; more && !over[c.Key]; {
			l, compacted := shard.Feed(s, sp(c.Key, c.Key+"\x00"), seen{{Key: c.Key, Version: versions[c.Key]}}, 8)
			if compacted != (c.Floor > versions[c.Key]) {
				t.Fatalf("P17.2: behind %d of %#v: compacted: %v", versions[c.Key], c, compacted)
			}
			for _, e := range l {
				if versions[c.Key]++; e.Version != versions[c.Key] {
					t.Fatalf("P17.2: %#v isn't Version %d", e, versions[c.Key])
				}
			}
			over[c.Key], more = compacted, len(l) == 8
		}
		if !over[c.Key] && versions[c.Key] != c.Version {
			t.Fatalf("P17.2: of %#v %d Versions were told", c, versions[c.Key])
		}
	}
}

// spoil: all of a list, the spare room too.
func spoil[T any](l []T, by T) {
	l = l[:cap(l)]
	for i := range l {
		l[i] = by
	}
}

// each: a call for each list of s, so that lists that share memory show.
func each(s api.Shard) []func() {
	l := []func(){func() { spoil(s.Cells, is("spoilt", "", -9, -9)) }, func() { spoil(s.Events, was("spoilt", -9, "")) }}
	for _, d := range s.Done {
		l = append(l, func() { spoil(d.Answer.Rows, api.Row{Key: "spoilt", Version: -9}) })
	}
	return append(l, func() { spoil(s.Done, did(-9, -9, -9)) })
}

// roomy: a copy of a list with two of these as spare room behind it.
func roomy[T any](l []T, by T) []T {
	return append(slices.Clone(l), by, by)[:len(l)]
}

// roomyShard: with spare room behind each list, down to the Rows.
func roomyShard(s api.Shard) api.Shard {
	s.Cells, s.Events, s.Done = roomy(s.Cells, is("spare", "", 7, 0)), roomy(s.Events, was("spare", 7, "")), roomy(s.Done, did(7, 7, 7))
	for i, d := range s.Done {
		s.Done[i].Answer.Rows = roomy(d.Answer.Rows, api.Row{Key: "spare", Version: 7})
	}
	return s
}

// copyOf: down to the Rows, the spare room too.
func copyOf(s api.Shard) api.Shard {
	s.Cells, s.Events, s.Done = slices.Clone(s.Cells[:cap(s.Cells)]), slices.Clone(s.Events[:cap(s.Events)]), slices.Clone(s.Done[:cap(s.Done)])
	for i, d := range s.Done {
		s.Done[i].Answer.Rows = slices.Clone(d.Answer.Rows[:cap(d.Answer.Rows)])
	}
	return s
}

// calls: of each kind, by name: what is answered.
func calls() map[string]func(lo, hi api.Shard) []api.Shard {
	l := map[string]func(lo, hi api.Shard) []api.Shard{}
	for _, key := range []string{"b\x00", "d", "g", "o\x00", "a", "p"} {
		l["Split at "+key] = func(lo, hi api.Shard) []api.Shard {
			x, y, _ := cut.Split(lo, key, 1, 2)
			return []api.Shard{x, y}
		}
	}
	l["Join"] = func(lo, hi api.Shard) []api.Shard {
		x, _ := cut.Join(lo, hi, 1)
		return []api.Shard{x}
	}
	l["Join of wrong ones"] = func(lo, hi api.Shard) []api.Shard {
		x, _ := cut.Join(hi, lo, 1)
		return []api.Shard{x}
	}
	return l
}

// P17.1: what is handed in is neither changed nor kept; no two answers share memory, nor do two shards or two lists of one, their spare room and their Rows included.
func TestMemory(t *testing.T) {
	pairs := [][2]api.Shard{{bay(), cape()}, {noted(bay()), cape()}, {bay(), noted(cape())}, {bay(), shard.New(1, 1, sp("p", ""))}, {shard.New(1, 1, sp("b", "p")), cape()}, {long("b", "p", 24), noted(long("p", "", 24), didRows(1, 1, 3))}, {long("b", "p", 9), long("p", "", 0)}}
	for name, call := range calls() {
		for i, pair := range pairs {
			lo, hi := roomyShard(pair[0]), roomyShard(pair[1])
			wasLo, wasHi := copyOf(lo), copyOf(hi)
			first, second := call(lo, hi), call(lo, hi)
			var want []api.Shard
			for _, s := range second {
				want = append(want, copyOf(s))
			}
			for _, s := range first {
				for _, spoils := range each(s) {
					spoils()
				}
			}
			if !shard.Same(copyOf(lo), wasLo) || !shard.Same(copyOf(hi), wasHi) {
				t.Errorf("P17.1: %s, pair %d: what was handed in is changed: %#v, %#v", name, i, lo, hi)
			}
			for _, s := range []api.Shard{lo, hi} {
				for _, spoils := range each(s) {
					spoils()
				}
			}
			for j, s := range second {
				if !shard.Same(copyOf(s), want[j]) {
					t.Errorf("P17.1: %s, pair %d: what was answered is changed: %#v, not %#v", name, i, s, want[j])
				}
			}
		}
	}
}

// P17.1: no two lists of one answer share memory, also where those that were handed in do.
func TestListsApart(t *testing.T) {
	lo, hi := bay(), cape()
	for _, s := range []api.Shard{lo, hi} { // one list of Rows for all
		for i := range s.Done {
			s.Done[i].Answer.Rows = didRows(0, 1, 3).Answer.Rows
		}
	}
	hi.Done[1].Answer.Rows = lo.Done[0].Answer.Rows
	lo.Done[1].Answer.Rows = lo.Done[0].Answer.Rows
	for name, call := range calls() {
		got := call(lo, hi)
		var spoils []func()
		for _, s := range got {
			spoils = append(spoils, each(s)...)
		}
		for i, by := range spoils {
			var before []api.Shard
			for _, s := range got {
				before = append(before, copyOf(s))
			}
			by()
			changed := 0
			for j, s := range got {
				changed += unlike(before[j], copyOf(s))
			}
			if changed > 1 {
				t.Errorf("P17.1: %s: list %d shares memory: %#v", name, i, got)
			}
		}
	}
}

// unlike: how many lists are. (What is in a list of Done is looked at by its Rows and by its numbers apart.)
func unlike(a, b api.Shard) int {
	n := 0
	if !slices.Equal(a.Cells, b.Cells) {
		n++
	}
	if !slices.Equal(a.Events, b.Events) {
		n++
	}
	numbers := func(x, y api.Done) bool { return x.Session == y.Session && x.ID == y.ID }
	if !slices.EqualFunc(a.Done, b.Done, numbers) {
		return n + 1
	}
	for i := range a.Done {
		if !slices.Equal(a.Done[i].Answer.Rows, b.Done[i].Answer.Rows) {
			n++
		}
	}
	return n
}

// P17.1: of long lists, good or not, each call comes back soon.
func TestLongLists(t *testing.T) {
	n := 100000
	lo, hi := many("b", "d", n), many("d", "", n)
	s := isJoin(t, lo, hi, 1)
	if x, y := isSplit(t, s, "d", 2, 3); len(x.Cells) != n || len(y.Cells) != n {
		t.Errorf("P17.1: Split of many cells: %d, %d", len(x.Cells), len(y.Cells))
	}
	for name, s := range map[string]api.Shard{"cells": {ID: 1, Epoch: 1, Cells: make(cells, n)}, "events": {ID: 1, Epoch: 1, Events: make(events, n)}, "done": {ID: 1, Epoch: 1, Done: make(dones, n)}, "rows": noted(shard.New(1, 1, all), didRows(0, 1, n)), "span": shard.New(1, 1, sp(strings.Repeat("b", n), ""))} {
		if x, y, err := cut.Split(s, strings.Repeat("c", n), 1, 2); !isCode(err, api.ErrForm) || !shard.Same(x, none) || !shard.Same(y, none) {
			t.Errorf("P17.1: Split of many %s: %v", name, err)
		}
		if x, err := cut.Join(lo, s, 1); !isCode(err, api.ErrForm) || !shard.Same(x, none) {
			t.Errorf("P17.1: Join of many %s: %v", name, err)
		}
	}
}
