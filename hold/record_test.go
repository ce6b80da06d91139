package hold_test

import (
	"errors"
	"math"
	"slices"
	"strings"
	"testing"

	"estuary/api"
	"estuary/fault"
	"estuary/hold"
	"estuary/image"
	"estuary/op"
	"estuary/shard"
)

// change: a part of a record that is made another one; whether it has Bytes then.
type change struct {
	name string
	by   func(r *api.Record)
	good bool
}

// filled: a record of that Kind with some of all that one may have.
func filled(kind int) api.Record {
	r := api.Record{Kind: kind, N: [5]int{3, 64, 0, 4096, 7}, Key: "reed", Data: "some\x00 data \xff"}
	switch kind {
	case api.RBase:
		r.Shards, r.Gone = shards{stock(2, 3, sp("m", "")), frozen(stock(1, 1, sp("", "m")))}, []api.Gone{{ID: 9, Epoch: 64}, {ID: 3, Epoch: 1}}
	case api.RAsk:
		r.Op = api.Op{Kind: api.OBatch, Writes: []api.Write{{Key: "reed", Value: "tall"}, {Key: "shore", Del: true}}}
	}
	return r
}

// allChanges: what holds of all Kinds.
func allChanges() []change {
	l := []change{
		{"nothing", func(r *api.Record) {}, true}, {"no numbers", func(r *api.Record) { r.N = [5]int{} }, true}, {"no Key", func(r *api.Record) { r.Key = "" }, true}, {"Key longest", func(r *api.Record) { r.Key = longest }, true}, {"Key of any bytes", func(r *api.Record) { r.Key = "\x00\x80\xff" }, true}, {"Key long", func(r *api.Record) { r.Key = tooLong }, false},
		{"no Data", func(r *api.Record) { r.Data = "" }, true}, {"other Data", func(r *api.Record) { r.Data = "other" }, true}, {"much Data", func(r *api.Record) { r.Data = strings.Repeat("\x80", api.MaxDisk+1) }, true}, {"Key as Data", func(r *api.Record) { r.Key, r.Data = "", "reed" }, true},
		{"empty lists", func(r *api.Record) {
			if r.Kind != api.RBase {
				r.Shards, r.Gone = shards{}, []api.Gone{}
			}
			if r.Kind != api.RAsk {
				r.Op.Writes = []api.Write{}
			}
		}, true},
		{"Kind 0", func(r *api.Record) { *r = api.Record{} }, false}, {"no Kind", func(r *api.Record) { r.Kind = 0 }, false}, {"Kind below", func(r *api.Record) { r.Kind = -r.Kind }, false}, {"Kind above", func(r *api.Record) { r.Kind = api.RJoin + 1 }, false}, {"Kind far above", func(r *api.Record) { r.Kind += 1 << 32 }, false},
	}
	for i := range 5 {
		for n, good := range map[int]bool{0: true, 1: true, 63: true, 64: true, api.MaxRev: true, api.MaxRev + 1: false, -1: false, 1 << 48: false, math.MaxInt: false, math.MinInt: false} {
			l = append(l, change{"N", func(r *api.Record) { r.N[i] = n }, good})
		}
	}
	return l
}

// opChanges: of RAsk.
func opChanges() []change {
	l := []change{{"no Op", func(r *api.Record) { r.Op = api.Op{} }, false}}
	for _, o := range []api.Op{get("a"), put("a", strings.Repeat("v", 40)), {Kind: api.ODel, Key: longest}, {Kind: api.OCas, Key: "a", Value: "v", Version: api.MaxRev}, between("a", "b"), between("a", ""), batch("a"), batch("a", "b", "c", "d"), {Kind: api.OCompact, Key: "a", Version: api.MaxHistory}} {
		l = append(l, change{"Op", func(r *api.Record) { r.Op = o }, true})
	}
	for _, o := range []api.Op{get(""), get(tooLong), {Kind: api.OGet, Key: "a", Value: "v"}, put("a", strings.Repeat("v", 41)), {Kind: api.OCas, Key: "a", Version: -1}, between("b", "a"), batch(), batch("b", "a"), batch("a", "b", "c", "d", "e"), {Kind: api.OCompact, Key: "a", Version: api.MaxHistory + 1}, {Kind: 8, Key: "a"}, {Kind: -1, Key: "a"}} {
		l = append(l, change{"wrong Op", func(r *api.Record) { r.Op = o }, false})
	}
	return l
}

// noOpChanges, noBaseChanges: of the Kinds that have no Op, no Shards and no Gone.
func noOpChanges() []change {
	return []change{{"an Op", func(r *api.Record) { r.Op = get("a") }, false}, {"a wrong Op", func(r *api.Record) { r.Op = api.Op{Kind: 8} }, false}, {"an Op's Key", func(r *api.Record) { r.Op.Key = "a" }, false}, {"an Op's To", func(r *api.Record) { r.Op.To = "a" }, false}, {"an Op's Value", func(r *api.Record) { r.Op.Value = "v" }, false}, {"an Op's Version", func(r *api.Record) { r.Op.Version = 1 }, false}, {"an Op's Writes", func(r *api.Record) { r.Op.Writes = make([]api.Write, 1) }, false}}
}

func noBaseChanges() []change {
	return []change{{"a shard", func(r *api.Record) { r.Shards = row(1) }, false}, {"no shard", func(r *api.Record) { r.Shards = shards{none} }, false}, {"a Gone", func(r *api.Record) { r.Gone = []api.Gone{{ID: 1, Epoch: 1}} }, false}, {"a Gone of noughts", func(r *api.Record) { r.Gone = make([]api.Gone, 1) }, false}}
}

// baseChanges: of RBase.
func baseChanges() []change {
	l := []change{
		{"no shards", func(r *api.Record) { r.Shards = nil }, true}, {"no Gone", func(r *api.Record) { r.Gone = nil }, true}, {"neither", func(r *api.Record) { r.Shards, r.Gone = nil, nil }, true}, {"one", func(r *api.Record) { r.Shards = r.Shards[:1] }, true}, {"another order", func(r *api.Record) { slices.Reverse(r.Shards) }, true}, {"Gone in another order", func(r *api.Record) { slices.Reverse(r.Gone) }, true}, {"twice", func(r *api.Record) { r.Shards = slices.Repeat(r.Shards, 2) }, true}, {"Gone twice", func(r *api.Record) { r.Gone = slices.Repeat(r.Gone, 2) }, true},
		{"eight", func(r *api.Record) { r.Shards = row(8) }, true}, {"nine", func(r *api.Record) { r.Shards = row(9) }, false}, {"four hundred Gone", func(r *api.Record) { r.Gone = slices.Repeat(r.Gone, 200) }, true}, {"greatest", func(r *api.Record) {
			r.Shards = shards{shard.New(api.MaxRev, api.MaxEpoch, sp(longest, "\xff\xff\xff\xff\xff\xff\xff\xff"))}
			r.Shards[0].Cells = []api.Cell{{Key: longest, Value: tooMuch[1:], Version: api.MaxRev, Floor: api.MaxRev}, {Key: "\xff\xfe", Version: api.MaxRev, Del: true, Floor: api.MaxRev - 1}}
			r.Shards[0].Events = []api.Event{{Key: "\xff\xfe", Version: api.MaxRev, Del: true}}
		}, true}, {"all history", func(r *api.Record) {
			s := shard.New(1, 1, all)
			for i := range api.MaxHistory {
				s, _, _ = shard.Ask(s, i%3, i+1, put(longest, tooMuch[1:]))
			}
			r.Shards = shards{s}
		}, true}, {"fresh", func(r *api.Record) { r.Shards = shards{shard.New(1, 1, all)} }, true}, {"of many rows", func(r *api.Record) {
			r.Shards[0].Done = []api.Done{{Session: 1, ID: 7, Answer: api.Answer{Rows: make([]api.Row, api.MaxRows)}}}
		}, true},
		{"none", func(r *api.Record) { r.Shards[1] = none }, false}, {"ID", func(r *api.Record) { r.Shards[0].ID = api.MaxRev + 1 }, false}, {"Epoch", func(r *api.Record) { r.Shards[1].Epoch = 0 }, false}, {"Span", func(r *api.Record) { r.Shards[0].Span = sp("n", "") }, false}, {"cells", func(r *api.Record) { r.Shards[0].Cells = nil }, false}, {"events", func(r *api.Record) { r.Shards[0].Events = nil }, false}, {"value", func(r *api.Record) { r.Shards[0].Cells[0].Value = tooMuch }, false}, {"Done", func(r *api.Record) { r.Shards[1].Done[0].ID = 0 }, false}, {"rows", func(r *api.Record) { r.Shards[1].Done[0].Answer.Rows = make([]api.Row, api.MaxRows+1) }, false}, {"frozen", func(r *api.Record) { r.Shards[0].Frozen = true }, true},
	}
	for _, n := range []int{0, -1, 1, 63, 64, 1<<32 - 1, 1 << 32, 1<<32 + 1, 1<<48 - 1, 1 << 48, api.MaxRev + 1, math.MaxInt, math.MinInt, math.MinInt + 1} {
		l = append(l, change{"Gone's ID", func(r *api.Record) { r.Gone[0].ID = n }, true}, change{"Gone's Epoch", func(r *api.Record) { r.Gone[1].Epoch = n }, true})
	}
	return l
}

// changesOf: all that may be changed in a record of that Kind.
func changesOf(kind int) []change {
	switch kind {
	case api.RBase:
		return slices.Concat(allChanges(), noOpChanges(), baseChanges())
	case api.RAsk:
		return slices.Concat(allChanges(), opChanges(), noBaseChanges())
	default:
		return slices.Concat(allChanges(), noOpChanges(), noBaseChanges())
	}
}

// goods: records of all Kinds that have Bytes.
func goods() []api.Record {
	var l []api.Record
	for kind := api.RBase; kind <= api.RJoin; kind++ {
		for _, x := range changesOf(kind) {
			r := filled(kind)
			if x.by(&r); x.good {
				l = append(l, r)
			}
		}
	}
	return l
}

// isGood: the document's words once more: whether a record has Bytes.
func isGood(r api.Record) bool {
	for _, n := range r.N {
		if n < 0 || n > 1000000000000 {
			return false
		}
	}
	if r.Kind < 1 || r.Kind > 8 || len(r.Key) > 8 || (r.Kind == api.RAsk) != op.Is(r.Op) || r.Kind != api.RAsk && !op.Same(r.Op, api.Op{}) {
		return false
	}
	for _, s := range r.Shards {
		if !shard.Is(s) {
			return false
		}
	}
	return r.Kind == api.RBase && len(r.Shards) <= 8 || len(r.Shards)+len(r.Gone) == 0
}

// isRefused: whether what Read told is an error that the chapter names, and nothing beside it.
func isRefused(r api.Record, err error) bool {
	var why api.Errno
	return errors.As(err, &why) && slices.Contains([]api.Errno{api.ErrForm, api.ErrShort, api.ErrSpoilt, api.ErrLarge}, fault.Code(err)) && err.Error() != "" && sameRecord(r, api.Record{})
}

// carried: a record as it is read of its Bytes.
func carried(t *testing.T, r api.Record) api.Record {
	t.Helper()
	got, err := hold.Read(hold.Bytes(r))
	if err != nil || !sameRecord(got, r) {
		t.Fatalf("P18.3: Read of Bytes of %.999q: %.999q, %v", say(r), say(got), err)
	}
	return got
}

// read: of whatever text: a record of which it is the Bytes, or an error.
func read(t *testing.T, s string) (api.Record, error) {
	t.Helper()
	r, err := hold.Read(s)
	if err == nil && !(isGood(r) && hold.Bytes(r) == s) || err != nil && !isRefused(r, err) {
		t.Fatalf("P18.3: Read(%.500q): %.999q, %v", s, say(r), err)
	}
	return r, err
}

// P18.3: there and back, part by part; of what is no record none.
func TestBytes(t *testing.T) {
	for kind := api.RBase; kind <= api.RJoin; kind++ {
		for _, x := range changesOf(kind) {
			r := filled(kind)
			x.by(&r)
			b := hold.Bytes(r)
			if isGood(r) != x.good || (b != "") != x.good {
				t.Errorf("P18.3: %s of Kind %d: Bytes(%.999q): %.50q", x.name, kind, say(r), b)
			}
			if x.good {
				carried(t, r)
			}
		}
	}
	if got := hold.Bytes(api.Record{}); got != "" {
		t.Errorf("P18.3: Bytes of none: %q", got)
	}
}

// P18.3: of unlike records unlike bytes, and none at the front of another one's.
func TestUnlike(t *testing.T) {
	wrote := map[string]api.Record{}
	for _, r := range append(goods(), records()...) {
		b := hold.Bytes(r)
		if other, there := wrote[b]; b != "" && there && !sameRecord(other, r) {
			t.Errorf("P18.3: one text of two: %.999q, %.999q", say(other), say(r))
		}
		if b != "" {
			wrote[b] = r
		}
	}
	if len(wrote) < 1000 {
		t.Errorf("P18.3: %d records are few", len(wrote))
	}
	for b := range wrote {
		for _, tail := range []string{"\x00", "\x01", "\x80", b} {
			if r, err := read(t, b+tail); err == nil {
				t.Errorf("P18.3: Read with %.50q behind: %.999q", tail, say(r))
			}
		}
	}
}

// short: few bytes of all Kinds, so that each change of them can be tried.
func short() []api.Record {
	l := []api.Record{rec(api.RBase), base(shards{shard.New(1, 1, all)}, api.Gone{ID: 1, Epoch: 64}, api.Gone{ID: 1 << 32, Epoch: -1}), base(shards{stock(1, 2, all)}, api.Gone{}), ask(1, 64, get("a")), ask(2, 1, batch("a", "b")), install(1, 2, frozen(shard.New(1, 1, all)))}
	for kind := api.RFreeze; kind <= api.RJoin; kind++ {
		l = append(l, rec(kind, 1), at("reed", rec(kind, 1, 64, 3, 4, 5)))
	}
	return l
}

// P18.3: each byte changed to each other one, left out, doubled; cut off anywhere, at both ends: what isn't the Bytes of a record is refused.
func TestSpoilt(t *testing.T) {
	for _, r := range short() {
		b := hold.Bytes(r)
		for i := range b {
			for other := range 256 {
				s := b[:i] + string([]byte{byte(other)}) + b[i+1:]
				if got, err := read(t, s); s != b && err == nil && sameRecord(got, r) {
					t.Fatalf("P18.3: byte %d of %q made %d is the same", i, b, other)
				}
				if got, err := read(t, b[:i]+string([]byte{byte(other)})+b[i:]); err == nil && sameRecord(got, r) {
					t.Fatalf("P18.3: %d ahead of byte %d of %q is the same", other, i, b)
				}
			}
			read(t, b[:i]+b[i+1:])
			read(t, b[i+1:])
			if got, err := read(t, b[:i]); err == nil {
				t.Errorf("P18.3: %q cut off at %d: %.999q", b, i, say(got))
			}
		}
	}
}

// P18.3: all short texts, and all short ends behind the fronts of records.
func TestReadAll(t *testing.T) {
	fronts := []string{""}
	for _, r := range short() {
		b := hold.Bytes(r)
		for _, n := range []int{1, 6, 7, len(b) - 5, len(b) - 4, len(b) - 2} {
			fronts = append(fronts, b[:max(1, min(n, len(b)))])
		}
	}
	digits, good := "\x00\x01\x02\x08a@\x41\x7f\x80", 0
	for _, front := range fronts {
		for i := range int(math.Pow(float64(len(digits)), 4)) {
			b := []byte(front)
			for ; i > 0; i /= len(digits) {
				b = append(b, digits[i%len(digits)])
			}
			if _, err := read(t, string(b)); err == nil {
				good++
			}
		}
	}
	if good < 100 {
		t.Errorf("P18.3: so few were read: %d", good)
	}
}

// P18.3: a shard has any number of cells, also more than an image that is read; Data and Gone are as many as one likes.
func TestLarge(t *testing.T) {
	n := 1 << 18
	large := base(shards{shard.New(1, 1, all), shard.New(2, 1, all)})
	for i := range n {
		large.Shards[1].Cells = append(large.Shards[1].Cells, api.Cell{Key: string([]byte{byte(i >> 16), byte(i >> 8), byte(i)}) + "k", Value: "value", Version: i + 1, Floor: i + 1})
		large.Gone = append(large.Gone, api.Gone{ID: i, Epoch: -i})
	}
	if _, err := image.Read(image.Bytes(large.Shards[1])); !isCode(err, api.ErrLarge) {
		t.Errorf("P16.1: the image is small: %v", err)
	}
	carried(t, large)
	h := hold.New()
	for i := range large.Gone {
		large.Gone[i] = api.Gone{ID: n - i, Epoch: i + 1}
	}
	if _, err := h.Do(large); err != nil || h.Gone(n-7) != 8 {
		t.Errorf("P18.2: a large base: %v", err)
	}
	carried(t, h.Base())
	carried(t, bytes(1, 1, strings.Repeat("\x80\x00", 1<<22)))
}

// P18.3: of long texts and lists, good or not, each call comes back soon.
func TestHuge(t *testing.T) {
	n := 1 << 20
	for name, r := range map[string]api.Record{"shards": base(make(shards, n)), "good shards": base(slices.Repeat(row(8), n/8)), "cells": base(shards{{ID: 1, Epoch: 1, Cells: make([]api.Cell, n)}}), "events": base(shards{{ID: 1, Epoch: 1, Events: make([]api.Event, n)}}), "done": base(shards{{ID: 1, Epoch: 1, Done: make([]api.Done, n)}}), "writes": ask(1, 1, api.Op{Kind: api.OBatch, Writes: make([]api.Write, n)}), "a key": at(strings.Repeat("k", n), rec(api.RSplit, 1, 1))} {
		if b := hold.Bytes(r); b != "" {
			t.Errorf("P18.3: Bytes of many %s: %.50q", name, b)
		}
		h := hold.New()
		if _, err := h.Do(r); err == nil || len(h.Shards()) != 0 {
			t.Errorf("P18.2: Do of many %s", name)
		}
	}
	for _, b := range []string{"\x00", "\x01", "\x40", "\x7f", "\x80", "\xff"} {
		if r, err := read(t, strings.Repeat(b, n)); err == nil {
			t.Errorf("P18.3: Read of many %q: %.999q", b, say(r))
		}
	}
	for _, r := range short() {
		b := hold.Bytes(r)
		for i := range b {
			read(t, b[:i]+strings.Repeat("\x7f", 7)+"\x3f"+b[i:])
			read(t, b[:i]+strings.Repeat("\x7f", 5)+"\x3f"+strings.Repeat(b[i:], 100))
		}
	}
}

// spoil: all of a list, the spare room too.
func spoil[T any](l []T, by T) {
	l = l[:cap(l)]
	for i := range l {
		l[i] = by
	}
}

// roomy: a copy of a list with two of these as spare room behind it.
func roomy[T any](l []T, by T) []T {
	return append(slices.Clone(l), by, by)[:len(l)]
}

// roomyShard: with spare room behind each list, down to the Rows.
func roomyShard(s api.Shard) api.Shard {
	s.Cells, s.Events, s.Done = roomy(s.Cells, api.Cell{Key: "spare"}), roomy(s.Events, api.Event{Key: "spare"}), roomy(s.Done, api.Done{ID: 7})
	for i, d := range s.Done {
		s.Done[i].Answer.Rows = roomy(d.Answer.Rows, api.Row{Key: "spare"})
	}
	return s
}

// copyOf: down to the Rows, the spare room too.
func copyOf(s api.Shard) api.Shard {
	s.Cells, s.Events, s.Done = slices.Clone(s.Cells[:cap(s.Cells)]), slices.Clone(s.Events[:cap(s.Events)]), slices.Clone(s.Done[:cap(s.Done)])
	for i, d := range s.Done {
		s.Done[i].Answer.Rows = slices.Clone(d.Answer.Rows[:cap(d.Answer.Rows)])
	}
	return s
}

// lists: a call for each list of s that spoils it, so that lists that share memory show.
func lists(s api.Shard) []func() {
	l := []func(){func() { spoil(s.Cells, api.Cell{Key: "spoilt"}) }, func() { spoil(s.Events, api.Event{Key: "spoilt"}) }}
	for _, d := range s.Done {
		l = append(l, func() { spoil(d.Answer.Rows, api.Row{Key: "spoilt"}) })
	}
	return append(l, func() { spoil(s.Done, api.Done{Session: -9}) })
}

func listsOf(r api.Record) []func() {
	var l []func()
	for _, s := range r.Shards {
		l = append(l, lists(s)...)
	}
	return append(l, func() { spoil(r.Shards, none) }, func() { spoil(r.Gone, api.Gone{ID: -9}) }, func() { spoil(r.Op.Writes, api.Write{Key: "spoilt"}) })
}

// copyRecord: likewise.
func copyRecord(r api.Record) api.Record {
	r.Shards, r.Gone, r.Op.Writes = slices.Clone(r.Shards[:cap(r.Shards)]), slices.Clone(r.Gone[:cap(r.Gone)]), slices.Clone(r.Op.Writes[:cap(r.Op.Writes)])
	for i, s := range r.Shards {
		r.Shards[i] = copyOf(s)
	}
	return r
}

// roomyRecord: with spare room behind each list.
func roomyRecord(r api.Record) api.Record {
	r.Shards, r.Gone, r.Op.Writes = roomy(r.Shards, none), roomy(r.Gone, api.Gone{ID: 7}), roomy(r.Op.Writes, api.Write{Key: "spare"})
	for i, s := range r.Shards {
		r.Shards[i] = roomyShard(s)
	}
	return r
}

// P18.2, P18.3: what is handed in is neither changed nor kept.
func TestHandedIn(t *testing.T) {
	for _, start := range bases() {
		for _, x := range append(short(), filled(api.RBase), filled(api.RAsk), base(shards{none}), ask(0, 90, batch("a", "b", "c")), ask(0, 90, between("a", ""))) {
			h, m := both(t, start)
			r := roomyRecord(x)
			was := copyRecord(r)
			a, err := h.Do(r)
			hold.Bytes(r)
			if !sameRecord(copyRecord(r), was) {
				t.Errorf("P18.2: what was handed in is changed: %.999q", say(r))
			}
			for _, by := range listsOf(r) {
				by()
			}
			want, code := m.do(x)
			if !isCode(err, code) || !op.SameAnswer(a, want) || !m.is(h) {
				t.Errorf("P18.2: what was handed in is kept: %.999q: %#v, %v; %#v", say(x), a, err, h.Base())
			}
		}
	}
}

// told: all that a hold tells of shards, each by a call of its own, as records.
func told(h *hold.Hold) map[string]func() api.Record {
	one := func(s api.Shard, _ bool) api.Record { return base(shards{s}) }
	return map[string]func() api.Record{
		"Shards": func() api.Record { return base(h.Shards()) }, "Base": h.Base, "Get": func() api.Record { return one(h.Get(1)) }, "Find": func() api.Record { return one(h.Find("a")) }, "At": func() api.Record { return one(h.At("")) }, "At the upper one": func() api.Record { return one(h.At("n")) },
		"Read": func() api.Record { r, _ := hold.Read(hold.Bytes(h.Base())); return r },
	}
}

// P18.1: what is answered is new memory: nothing that is done with it touches another answer, or what there is.
func TestAnswered(t *testing.T) {
	for _, start := range bases() {
		h, m := both(t, start)
		for name, tell := range told(h) {
			first, second := tell(), tell()
			want := copyRecord(second)
			for _, by := range listsOf(first) {
				by()
			}
			if !sameRecord(copyRecord(second), want) || !m.is(h) {
				t.Errorf("P18.1: %s: what was answered is changed: %#v, not %#v", name, second, want)
			}
			for i := range listsOf(second) { // each list alone, of an answer that is whole
				again := tell()
				was, spoils := copyRecord(again), listsOf(again)
				if spoils[i](); unlike(was, copyRecord(again)) > 1 {
					t.Errorf("P18.1: %s: list %d shares memory: %#v", name, i, again)
				}
			}
		}
	}
}

// unlike: how many lists are; what stands in a list is looked at by itself.
func unlike(a, b api.Record) int {
	n := 0
	count := func(same bool) {
		if !same {
			n++
		}
	}
	count(slices.EqualFunc(a.Shards, b.Shards, func(x, y api.Shard) bool { return x.ID == y.ID }))
	count(slices.Equal(a.Gone, b.Gone))
	if n > 0 {
		return n
	}
	for i, s := range a.Shards {
		o := b.Shards[i]
		count(slices.Equal(s.Cells, o.Cells))
		count(slices.Equal(s.Events, o.Events))
		if slices.EqualFunc(s.Done, o.Done, func(x, y api.Done) bool { return x.Session == y.Session }) {
			for j, d := range s.Done {
				count(slices.Equal(d.Answer.Rows, o.Done[j].Answer.Rows))
			}
		} else {
			n++
		}
	}
	return n
}

// P18.2: an answer's rows are nobody else's, also where the same is told once more, and where what was done is told by its number.
func TestRows(t *testing.T) {
	h, m := both(t, base(shards{stock(1, 1, all)}))
	for _, r := range []api.Record{ask(0, 50, between("a", "")), ask(2, 9, put("a", "was done")), ask(2, 9, between("a", ""))} {
		a, err := h.Do(r)
		b, other := h.Do(r)
		if err != nil || other != nil || len(a.Rows) < 2 || !op.SameAnswer(a, b) {
			t.Fatalf("P18.2: %.999q: %#v, %v, %#v, %v", say(r), a, err, b, other)
		}
		spoil(a.Rows, api.Row{Key: "spoilt"})
		want, _ := m.do(r)
		if !op.SameAnswer(b, want) || !m.is(h) {
			t.Errorf("P18.2: %.999q: what was answered is changed: %#v, %#v", say(r), b, h.Base())
		}
	}
}

// P18.2: two holds of one base go on apart.
func TestApart(t *testing.T) {
	start := base(shards{stock(1, 1, all)}, api.Gone{ID: 9, Epoch: 1})
	for _, r := range records() {
		one, m := both(t, start)
		two, n := both(t, one.Base())
		if step(t, one, m, r); !n.is(two) {
			t.Fatalf("P18.2: behind %.999q of another one: %#v", say(r), two.Base())
		}
	}
}
