package hold_test

import (
	"errors"
	"maps"
	"math"
	"math/rand/v2"
	"slices"
	"strconv"
	"strings"
	"testing"

	"estuary/api"
	"estuary/cut"
	"estuary/fault"
	"estuary/hold"
	"estuary/image"
	"estuary/op"
	"estuary/shard"
)

type shards = []api.Shard

var (
	longest = strings.Repeat("k", api.MaxKey)
	tooLong = strings.Repeat("k", api.MaxKey+1)
	tooMuch = strings.Repeat("v", api.MaxValue+1)
	all     = api.Span{}
	none    = api.Shard{}
)

func sp(from, to string) api.Span { return api.Span{From: from, To: to} }

func put(key, value string) api.Op { return api.Op{Kind: api.OPut, Key: key, Value: value} }

func get(key string) api.Op { return api.Op{Kind: api.OGet, Key: key} }

func between(key, to string) api.Op { return api.Op{Kind: api.ORange, Key: key, To: to} }

func batch(keys ...string) api.Op {
	o := api.Op{Kind: api.OBatch}
	for _, key := range keys {
		o.Writes = append(o.Writes, api.Write{Key: key, Value: "batch"})
	}
	return o
}

func frozen(s api.Shard) api.Shard {
	s.Frozen = true
	return s
}

// stock: a shard that was asked this and that: with cells, events, Floors, and Done of which one has Rows.
func stock(id, epoch int, p api.Span) api.Shard {
	s := shard.New(id, epoch, p)
	for i, o := range []api.Op{put("a", "1"), put("m", "2"), put("c", "3"), put("m", "4"), {Kind: api.OCompact, Key: "c", Version: 1}, {Kind: api.OCompact, Key: "x", Version: 1}, {Kind: api.ODel, Key: "c"}, put("x", "5")} {
		if o.Key >= p.From && (p.To == "" || o.Key < p.To) {
			s, _, _ = shard.Ask(s, i%2, i+1, o)
		}
	}
	s.Done = append(s.Done, api.Done{Session: 2, ID: 9, Answer: api.Answer{Code: 14, Rows: []api.Row{{Key: "row", Version: 1}, {Key: "two"}}}})
	if !shard.Is(s) {
		panic("no shard: " + strconv.Itoa(id))
	}
	return s
}

// row: so many shards that touch, of Epochs as their numbers.
func row(n int) shards {
	var l shards
	from := ""
	for i := range n {
		to := string(rune('b' + 2*i))
		if i == n-1 {
			to = ""
		}
		l = append(l, shard.New(i+1, i+1, sp(from, to)))
		from = to
	}
	return l
}

// base, ask, rec, at, install: records.
func base(l shards, gone ...api.Gone) api.Record {
	return api.Record{Kind: api.RBase, Shards: l, Gone: gone}
}

func ask(session, id int, o api.Op) api.Record {
	return api.Record{Kind: api.RAsk, N: [5]int{session, id}, Op: o}
}

func rec(kind int, n ...int) api.Record {
	r := api.Record{Kind: kind}
	copy(r.N[:], n)
	return r
}

func at(key string, r api.Record) api.Record {
	r.Key = key
	return r
}

func install(id, epoch int, s api.Shard) api.Record {
	r := rec(api.RInstall, id, epoch)
	r.Data = image.Bytes(s)
	return r
}

func bytes(id, epoch int, data string) api.Record {
	r := rec(api.RInstall, id, epoch)
	r.Data = data
	return r
}

// bases: good ones, among them more shards than the mover makes, shards that lie over one another, and Gone of what is there.
func bases() []api.Record {
	full := row(8)
	full[2].Frozen = true
	return []api.Record{
		base(nil), base(shards{shard.New(1, 1, all)}), base(shards{stock(2, 3, sp("m", "")), stock(1, 1, sp("", "m"))}, api.Gone{ID: 9, Epoch: 4}),
		base(shards{stock(2, 1, all), frozen(stock(1, 2, all)), shard.New(3, 1, sp("m", "n"))}, api.Gone{ID: 20, Epoch: 1}, api.Gone{ID: 1, Epoch: 1}, api.Gone{ID: 5, Epoch: 2}),
		base(row(7), api.Gone{ID: 9, Epoch: api.MaxEpoch}), base(full), base(row(9)),
		base(shards{stock(1, api.MaxEpoch, sp("", "m")), frozen(stock(2, api.MaxEpoch-1, sp("m", ""))), frozen(stock(3, api.MaxEpoch, sp("", "c")))}, api.Gone{ID: 2, Epoch: api.MaxEpoch}, api.Gone{ID: math.MaxInt, Epoch: math.MaxInt}),
		base(shards{frozen(stock(3, 3, sp("m", "x"))), frozen(shard.New(1, 1, sp("x", ""))), frozen(stock(2, 2, sp("", "m")))}),
	}
}

// model: the document's words once more, in another way than the program's: shards and epochs by number.
type model struct {
	shards map[int]api.Shard
	gone   map[int]int
}

func newModel() *model { return &model{map[int]api.Shard{}, map[int]int{}} }

func (m *model) ordered() shards {
	return slices.SortedFunc(maps.Values(m.shards), func(a, b api.Shard) int {
		if a.Span.From != b.Span.From {
			return strings.Compare(a.Span.From, b.Span.From)
		}
		return a.ID - b.ID
	})
}

func (m *model) goneOf() []api.Gone {
	var l []api.Gone
	for _, id := range slices.Sorted(maps.Keys(m.gone)) {
		l = append(l, api.Gone{ID: id, Epoch: m.gone[id]})
	}
	return l
}

func (m *model) find(key string) (api.Shard, bool) {
	for _, s := range m.ordered() {
		if p := s.Span; len(key) >= 1 && len(key) <= 8 && !s.Frozen && p.From <= key && (p.To == "" || key < p.To) {
			return s, true
		}
	}
	return none, false
}

func (m *model) at(from string) (api.Shard, bool) {
	for _, s := range m.ordered() {
		if p := s.Span; !s.Frozen && !(p.From > from) && (len(p.To) == 0 || p.To > from) {
			return s, true
		}
	}
	return none, false
}

func (m *model) do(r api.Record) (api.Answer, api.Errno) {
	n := r.N
	switch r.Kind {
	case api.RBase:
		return api.Answer{}, m.base(r)
	case api.RAsk:
		s, there := m.find(op.Key(r.Op))
		if !there {
			return api.Answer{}, api.ErrMoved
		}
		s, a, _ := shard.Ask(s, n[0], n[1], r.Op)
		m.shards[s.ID] = s
		return a, api.OK
	case api.RInstall:
		return api.Answer{}, m.install(n[0], n[1], r.Data)
	case api.RFreeze, api.RThaw, api.RDrop, api.RSplit, api.RJoin:
		s, other := m.shards[n[0]], m.shards[n[2]]
		if s.ID == 0 || s.Epoch != n[1] || r.Kind == api.RJoin && (other.ID == 0 || other.Epoch != n[3]) {
			return api.Answer{}, api.ErrNone
		}
		return api.Answer{}, m.change(r, s, other)
	}
	return api.Answer{}, api.ErrForm
}

func (m *model) base(r api.Record) api.Errno {
	next := newModel()
	for _, s := range r.Shards {
		if !shard.Is(s) {
			return api.ErrForm
		}
		next.shards[s.ID] = s
	}
	for _, g := range r.Gone {
		if g.ID < 1 || g.Epoch < 1 {
			return api.ErrForm
		}
		next.gone[g.ID] = g.Epoch
	}
	if len(next.shards) != len(r.Shards) || len(next.gone) != len(r.Gone) {
		return api.ErrForm
	}
	*m = *next
	return api.OK
}

func (m *model) install(id, epoch int, data string) api.Errno {
	s, err := image.Read(data)
	_, there := m.shards[id]
	switch {
	case there || m.gone[id] >= epoch:
		return api.ErrOrder
	case err != nil:
		return fault.Code(err)
	case !s.Frozen || s.ID != id || s.Epoch+1 != epoch || epoch > 1000000:
		return api.ErrForm
	case len(m.shards) >= 8:
		return api.ErrFull
	}
	s.Epoch, s.Frozen = epoch, false
	m.shards[id] = s
	return api.OK
}

func (m *model) change(r api.Record, s, other api.Shard) api.Errno {
	was := s
	switch r.Kind {
	case api.RFreeze:
		s.Frozen = true
		m.shards[s.ID] = s
	case api.RThaw:
		if s.Epoch == 1000000 {
			return api.ErrForm
		}
		s.Frozen, s.Epoch = false, s.Epoch+1
		m.shards[s.ID] = s
	case api.RDrop:
		if !s.Frozen {
			return api.ErrNone
		}
		m.goes(s)
	case api.RSplit:
		if m.used(r.N[2]) || m.used(r.N[3]) {
			return api.ErrOrder
		}
		if len(m.shards) >= 8 {
			return api.ErrFull
		}
		a, b, err := cut.Split(was, r.Key, r.N[2], r.N[3])
		if err != nil {
			return fault.Code(err)
		}
		m.goes(was)
		m.shards[a.ID], m.shards[b.ID] = a, b
	case api.RJoin:
		if m.used(r.N[4]) {
			return api.ErrOrder
		}
		x, err := cut.Join(was, other, r.N[4])
		if err != nil {
			return fault.Code(err)
		}
		m.goes(was)
		m.goes(other)
		m.shards[x.ID] = x
	}
	return api.OK
}

func (m *model) goes(s api.Shard) {
	delete(m.shards, s.ID)
	if m.gone[s.ID] < s.Epoch {
		m.gone[s.ID] = s.Epoch
	}
}

func (m *model) used(id int) bool {
	_, there := m.shards[id]
	return there || m.gone[id] != 0
}

// isCode: whether err is what the document means by an error with this Code, and by no other one.
func isCode(err error, code api.Errno) bool {
	if code == api.OK {
		return err == nil
	}
	for other := api.ErrForm; other <= api.ErrLine; other++ {
		if errors.Is(err, other) != (other == code) {
			return false
		}
	}
	return fault.Code(err) == code && err.Error() != ""
}

func sameShards(a, b shards) bool { return slices.EqualFunc(a, b, shard.Same) }

// sameRecord: all parts.
func sameRecord(a, b api.Record) bool {
	return a.Kind == b.Kind && a.N == b.N && op.Same(a.Op, b.Op) && a.Key == b.Key && a.Data == b.Data && sameShards(a.Shards, b.Shards) && slices.Equal(a.Gone, b.Gone)
}

// is: whether Base tells what m is.
func (m *model) is(h *hold.Hold) bool { return sameRecord(h.Base(), base(m.ordered(), m.goneOf()...)) }

// both: a hold and its model from a base on.
func both(t *testing.T, start api.Record) (*hold.Hold, *model) {
	t.Helper()
	h, m := hold.New(), newModel()
	if _, err := step(t, h, m, start); err != nil {
		t.Fatalf("P18.2: a good base: %v", err)
	}
	return h, m
}

// step: Do, held against the document's words, and all that there is behind it.
func step(t *testing.T, h *hold.Hold, m *model, r api.Record) (api.Answer, error) {
	t.Helper()
	a, err := h.Do(r)
	want, code := m.do(r)
	if !isCode(err, code) || !op.SameAnswer(a, want) {
		t.Fatalf("P18.2: Do(%.999q): %#v, %v; not %#v, %d", say(r), a, err, want, code)
	}
	if !m.is(h) {
		t.Fatalf("P18.2: behind Do(%.999q), %v: %#v; not %#v, %#v", say(r), err, h.Base(), m.ordered(), m.goneOf())
	}
	return a, err
}

func say(r api.Record) string {
	out := "Kind " + strconv.Itoa(r.Kind) + " N"
	for _, n := range r.N {
		out += " " + strconv.Itoa(n)
	}
	out += " Op " + strconv.Itoa(r.Op.Kind) + " " + r.Op.Key + " " + r.Op.Value + " Key " + r.Key + " Data " + r.Data
	for _, s := range r.Shards {
		out += " " + strconv.Itoa(s.ID) + "/" + strconv.Itoa(s.Epoch)
	}
	for _, g := range r.Gone {
		out += " gone " + strconv.Itoa(g.ID) + "/" + strconv.Itoa(g.Epoch)
	}
	return out
}

// P18.1: a new one has none of all.
func TestNew(t *testing.T) {
	h := hold.New()
	for _, key := range []string{"", "a", tooLong} {
		if s, there := h.Find(key); there || !shard.Same(s, none) {
			t.Errorf("P18.1: Find(%q) of none: %#v, %v", key, s, there)
		}
		if s, there := h.At(key); there || !shard.Same(s, none) {
			t.Errorf("P18.1: At(%q) of none: %#v, %v", key, s, there)
		}
	}
	for _, id := range []int{0, 1, -1, math.MaxInt, math.MinInt} {
		if s, there := h.Get(id); there || !shard.Same(s, none) || h.Gone(id) != 0 {
			t.Errorf("P18.1: Get(%d), Gone of none: %#v, %v, %d", id, s, there, h.Gone(id))
		}
	}
	if len(h.Shards()) != 0 || !sameRecord(h.Base(), api.Record{Kind: api.RBase}) {
		t.Errorf("P18.1: of none: %#v, %#v", h.Shards(), h.Base())
	}
}

// P18.1: by From, of one From by ID; Find and At by the first one that isn't frozen.
func TestOrder(t *testing.T) {
	h, _ := both(t, base(shards{shard.New(70, 1, sp("m", "")), frozen(shard.New(5, 2, all)), shard.New(8, 1, sp("", "c")), shard.New(11, 4, sp("c", "m")), shard.New(9, 1, sp("", "b")), frozen(shard.New(10, 3, sp("c", ""))), shard.New(3, 1, sp("m", "n"))}, api.Gone{ID: 70, Epoch: 3}, api.Gone{ID: 2, Epoch: 7}))
	var ids []int
	for _, s := range h.Shards() {
		ids = append(ids, s.ID)
	}
	if !slices.Equal(ids, []int{5, 8, 9, 10, 11, 3, 70}) {
		t.Errorf("P18.1: Shards in this order: %v", ids)
	}
	for _, x := range []struct {
		key      string
		find, at int
	}{
		{"", 0, 8}, {"\x00", 8, 8}, {"a", 8, 8}, {"b", 8, 8}, {"c", 11, 11}, {"c\x00", 11, 11}, {"l\xff", 11, 11}, {"m", 3, 3}, {"m\xff", 3, 3}, {"n", 70, 70}, {longest, 11, 11}, {tooLong, 0, 11}, {"z" + tooLong, 0, 70}, {"\xff", 70, 70},
	} {
		s, there := h.Find(x.key)
		o, found := h.At(x.key)
		if s.ID != x.find || there != (x.find > 0) || o.ID != x.at || found != (x.at > 0) {
			t.Errorf("P18.1: Find(%q): %d, %v; At: %d, %v", x.key, s.ID, there, o.ID, found)
		}
	}
	for id, epoch := range map[int]int{70: 3, 2: 7, 5: 0, 0: 0, -1: 0, 71: 0, 1: 0, math.MaxInt: 0, math.MinInt: 0} {
		if got := h.Gone(id); got != epoch {
			t.Errorf("P18.1: Gone(%d): %d", id, got)
		}
	}
	for id, epoch := range map[int]int{70: 1, 5: 2, 10: 3, 11: 4, 2: 0, 0: 0, -1: 0, 7: 0} {
		if s, there := h.Get(id); s.Epoch != epoch || there != (epoch > 0) {
			t.Errorf("P18.1: Get(%d): %#v, %v", id, s, there)
		}
	}
}

// P18.1: all that is told, whatever three shards there are, frozen ones too, handed in in whatever order.
func TestLookups(t *testing.T) {
	spans := []api.Span{all, sp("", "c"), sp("c", ""), sp("c", "m"), sp("m", "x"), sp("c\x00", "d")}
	keys := []string{"", "\x00", "b\xff", "c", "c\x00", "c\x01", "d", "l", "m", "w", "x", "\xff", longest, tooLong, "c" + tooLong}
	for i := range 1 << 12 { // its digits of four bits are the shards
		var l shards
		for j := range 3 {
			if d := i >> (4 * j) % 16; d < 12 {
				l = append(l, api.Shard{ID: []int{5, 3, 9}[j], Epoch: j + 1, Span: spans[d%6], Frozen: d >= 6})
			}
		}
		h, m := both(t, base(l, api.Gone{ID: 9, Epoch: i + 1}))
		if !sameShards(h.Shards(), m.ordered()) {
			t.Fatalf("P18.1: Shards of %#v: %#v", l, h.Shards())
		}
		for _, key := range keys {
			s, there := h.Find(key)
			if want, is := m.find(key); !shard.Same(s, want) || there != is {
				t.Fatalf("P18.1: Find(%q) of %#v: %#v, %v", key, l, s, there)
			}
			s, there = h.At(key)
			if want, is := m.at(key); !shard.Same(s, want) || there != is {
				t.Fatalf("P18.1: At(%q) of %#v: %#v, %v", key, l, s, there)
			}
		}
		for id := range 12 {
			s, there := h.Get(id)
			if want := m.shards[id]; !shard.Same(s, want) || there != (want.ID > 0) || h.Gone(id) != m.gone[id] {
				t.Fatalf("P18.1: Get(%d) of %#v: %#v, %v, gone %d", id, l, s, there, h.Gone(id))
			}
		}
	}
}

// P18.2: a base is all there is, in whatever order it comes; what isn't one is refused, and changes nothing.
func TestBase(t *testing.T) {
	one, two, gone := stock(1, 2, sp("", "m")), stock(2, 1, sp("m", "")), api.Gone{ID: 5, Epoch: 3}
	off := func(by func(s *api.Shard)) shards {
		s := stock(2, 1, sp("m", ""))
		by(&s)
		return shards{one, s}
	}
	for _, x := range []struct {
		name string
		r    api.Record
		code api.Errno
	}{
		{"none", base(nil), api.OK}, {"of empty lists", base(shards{}, []api.Gone{}...), api.OK}, {"one", base(shards{one}), api.OK}, {"two", base(shards{two, one}, gone), api.OK}, {"nine", base(row(9)), api.OK}, {"forty", base(row(40)), api.OK}, {"all over one another", base(shards{shard.New(2, 1, all), shard.New(1, 1, all)}), api.OK},
		{"frozen", base(shards{frozen(one)}), api.OK}, {"greatest", base(shards{shard.New(api.MaxRev, api.MaxEpoch, all)}, api.Gone{ID: math.MaxInt, Epoch: math.MaxInt}), api.OK}, {"first", base(shards{shard.New(1, 1, all)}, api.Gone{ID: 1, Epoch: 1}), api.OK}, {"back", base(nil, api.Gone{ID: 7, Epoch: 1}, api.Gone{ID: 2, Epoch: 9}, gone), api.OK},
		{"other parts", api.Record{Kind: api.RBase, N: [5]int{-1, 2, 3, 4, 5}, Op: get("a"), Key: tooLong, Data: "data", Shards: shards{one}}, api.OK},
		{"no shard", base(shards{none}), api.ErrForm}, {"no second one", base(shards{one, none}), api.ErrForm}, {"ID", base(off(func(s *api.Shard) { s.ID = 0 })), api.ErrForm}, {"Epoch", base(off(func(s *api.Shard) { s.Epoch = api.MaxEpoch + 1 })), api.ErrForm}, {"Span", base(off(func(s *api.Shard) { s.Span = sp("m", "c") })), api.ErrForm}, {"cells", base(off(func(s *api.Shard) { s.Cells = s.Cells[1:] })), api.ErrForm}, {"events", base(off(func(s *api.Shard) { s.Events = nil })), api.ErrForm}, {"Done", base(off(func(s *api.Shard) { s.Done[0].ID = 0 })), api.ErrForm}, {"frozen and wrong", base(off(func(s *api.Shard) { s.Frozen, s.ID = true, -1 })), api.ErrForm},
		{"one number", base(shards{one, shard.New(1, 1, sp("m", ""))}), api.ErrForm}, {"twice", base(shards{two, one, two}), api.ErrForm}, {"gone twice", base(shards{one}, gone, api.Gone{ID: 5, Epoch: 4}), api.ErrForm}, {"gone twice apart", base(nil, gone, api.Gone{ID: 7, Epoch: 3}, gone), api.ErrForm},
		{"gone 0", base(shards{one}, api.Gone{ID: 0, Epoch: 1}), api.ErrForm}, {"gone below", base(shards{one}, gone, api.Gone{ID: -1, Epoch: 1}), api.ErrForm}, {"gone epoch 0", base(shards{one}, api.Gone{ID: 1, Epoch: 0}), api.ErrForm}, {"gone epoch below", base(nil, gone, api.Gone{ID: 1, Epoch: math.MinInt}), api.ErrForm},
	} {
		for _, start := range bases() {
			h, m := both(t, start)
			a, err := step(t, h, m, x.r)
			if !isCode(err, x.code) || !op.SameAnswer(a, api.Answer{}) {
				t.Errorf("P18.2: %s: %#v, %v, not %d", x.name, a, err, x.code)
			}
			if want := start; err != nil && !(sameShards(sorted(want.Shards), h.Shards()) && len(want.Gone) == len(h.Base().Gone)) {
				t.Errorf("P18.2: behind %s: %#v", x.name, h.Base())
			}
			if err == nil && !sameShards(sorted(x.r.Shards), h.Shards()) {
				t.Errorf("P18.2: behind %s: %#v", x.name, h.Base())
			}
		}
	}
}

func sorted(l shards) shards {
	m := newModel()
	for _, s := range l {
		m.shards[s.ID] = s
	}
	return m.ordered()
}

// P18.2: part by part: what each Kind makes.
func TestDo(t *testing.T) {
	lo, hi := stock(1, 1, sp("", "m")), stock(2, 3, sp("m", ""))
	start := base(shards{hi, lo}, api.Gone{ID: 9, Epoch: 4})
	with := func(s api.Shard, epoch int, isFrozen bool) api.Shard {
		s.Epoch, s.Frozen = epoch, isFrozen
		return s
	}
	put1, a, _ := shard.Ask(lo, 0, 50, put("a", "new"))
	late := stock(9, 4, sp("b", "d"))
	a5, b6, _ := cut.Split(hi, "o", 6, 5)
	whole, _ := cut.Join(lo, hi, 7)
	nine := []api.Gone{{ID: 9, Epoch: 4}}
	for _, x := range []struct {
		name   string
		before []api.Record
		r      api.Record
		want   api.Record
		a      api.Answer
		code   api.Errno
	}{
		{"ask", nil, ask(0, 50, put("a", "new")), base(shards{put1, hi}, nine...), a, api.OK},
		{"ask once more", []api.Record{ask(0, 50, put("a", "new"))}, ask(0, 50, put("a", "other")), base(shards{put1, hi}, nine...), a, api.OK},
		{"ask too late", nil, ask(2, 8, put("x", "late")), start, api.Answer{}, api.OK},
		{"get", nil, ask(0, 50, get("m")), start, api.Answer{Value: "4", Version: 2}, api.OK},
		{"get of none", nil, ask(0, 50, get("b")), start, api.Answer{Code: int(api.ErrNone)}, api.OK},
		{"range", nil, ask(0, 50, between("m", "")), start, api.Answer{Rows: []api.Row{{Key: "m", Value: "4", Version: 2}, {Key: "x", Value: "5", Version: 1}}}, api.OK},
		{"range over both", nil, ask(0, 50, between("a", "x")), start, api.Answer{Code: int(api.ErrSplit)}, api.OK},
		{"ask a frozen one", []api.Record{rec(api.RFreeze, 1, 1)}, ask(0, 50, put("a", "new")), base(shards{frozen(lo), hi}, nine...), api.Answer{}, api.ErrMoved},
		{"freeze", nil, rec(api.RFreeze, 2, 3), base(shards{lo, frozen(hi)}, nine...), api.Answer{}, api.OK},
		{"freeze once more", []api.Record{rec(api.RFreeze, 2, 3)}, rec(api.RFreeze, 2, 3), base(shards{lo, frozen(hi)}, nine...), api.Answer{}, api.OK},
		{"thaw", []api.Record{rec(api.RFreeze, 2, 3)}, rec(api.RThaw, 2, 3), base(shards{lo, with(hi, 4, false)}, nine...), api.Answer{}, api.OK},
		{"thaw what isn't frozen", nil, rec(api.RThaw, 1, 1), base(shards{with(lo, 2, false), hi}, nine...), api.Answer{}, api.OK},
		{"thaw once more", []api.Record{rec(api.RThaw, 1, 1)}, rec(api.RThaw, 1, 1), base(shards{with(lo, 2, false), hi}, nine...), api.Answer{}, api.ErrNone},
		{"drop", []api.Record{rec(api.RFreeze, 2, 3)}, rec(api.RDrop, 2, 3), base(shards{lo}, api.Gone{ID: 2, Epoch: 3}, nine[0]), api.Answer{}, api.OK},
		{"drop what isn't frozen", nil, rec(api.RDrop, 2, 3), start, api.Answer{}, api.ErrNone},
		{"install", nil, install(9, 5, frozen(late)), base(shards{lo, with(late, 5, false), hi}, nine...), api.Answer{}, api.OK},
		{"install a new one", nil, install(3, 4, frozen(stock(3, 3, sp("d", "")))), base(shards{lo, with(stock(3, 3, sp("d", "")), 4, false), hi}, nine...), api.Answer{}, api.OK},
		{"install what was given away", []api.Record{rec(api.RFreeze, 2, 3), rec(api.RDrop, 2, 3)}, install(2, 3, frozen(with(hi, 2, true))), base(shards{lo}, api.Gone{ID: 2, Epoch: 3}, nine[0]), api.Answer{}, api.ErrOrder},
		{"install it again", []api.Record{rec(api.RFreeze, 2, 3), rec(api.RDrop, 2, 3)}, install(2, 4, frozen(hi)), base(shards{lo, with(hi, 4, false)}, api.Gone{ID: 2, Epoch: 3}, nine[0]), api.Answer{}, api.OK},
		{"split", nil, at("o", rec(api.RSplit, 2, 3, 6, 5)), base(shards{lo, a5, b6}, api.Gone{ID: 2, Epoch: 3}, nine[0]), api.Answer{}, api.OK},
		{"split a frozen one", []api.Record{rec(api.RFreeze, 2, 3)}, at("o", rec(api.RSplit, 2, 3, 6, 5)), base(shards{lo, frozen(hi)}, nine...), api.Answer{}, api.ErrForm},
		{"join", nil, rec(api.RJoin, 1, 1, 2, 3, 7), base(shards{whole}, api.Gone{ID: 1, Epoch: 1}, api.Gone{ID: 2, Epoch: 3}, nine[0]), api.Answer{}, api.OK},
		{"join in another order", nil, rec(api.RJoin, 2, 3, 1, 1, 7), start, api.Answer{}, api.ErrOrder},
	} {
		h, m := both(t, start)
		for _, r := range x.before {
			if _, err := step(t, h, m, r); err != nil {
				t.Fatalf("P18.2: ahead of %s: %v", x.name, err)
			}
		}
		got, err := step(t, h, m, x.r)
		x.want.Shards = sorted(x.want.Shards)
		if !isCode(err, x.code) || !op.SameAnswer(got, x.a) || !sameRecord(h.Base(), x.want) {
			t.Errorf("P18.2: %s: %#v, %v; %#v, not %#v", x.name, got, err, h.Base(), x.want)
		}
	}
}

// P18.2: a row an error, and those where several apply: the answer is the one that is named first.
func TestDoErrors(t *testing.T) {
	l := bases()
	two, over, seven, full, nine, spent := l[2], l[3], l[4], l[5], l[6], l[7]
	late := image.Bytes(frozen(stock(20, 3, sp("b", "d"))))
	large := shard.New(20, 3, all)
	for i := range 20000 {
		large.Cells = append(large.Cells, api.Cell{Key: string([]byte{byte(i >> 8), byte(i)}) + "key", Value: "v", Version: 1, Floor: 1})
	}
	large.Cells = large.Cells[1:]
	for _, x := range []struct {
		name  string
		start api.Record
		r     api.Record
		code  api.Errno
	}{
		{"no Kind", two, rec(0, 1, 1), api.ErrForm}, {"Kind below", two, rec(-1, 1, 1), api.ErrForm}, {"Kind above", two, rec(api.RJoin+1, 1, 1, 2, 3, 5), api.ErrForm}, {"greatest Kind", two, rec(math.MaxInt, 1, 1), api.ErrForm}, {"least Kind", two, rec(math.MinInt, 1, 1), api.ErrForm}, {"no Kind, no shard", two, rec(9, 70, 1), api.ErrForm},
		{"ask nobody", l[0], ask(0, 1, put("a", "v")), api.ErrMoved}, {"ask no key", two, ask(0, 1, get("")), api.ErrMoved}, {"ask a long key", two, ask(0, 1, get(tooLong)), api.ErrMoved}, {"ask no op", two, ask(0, 1, api.Op{}), api.ErrMoved}, {"an empty batch", two, ask(0, 1, batch()), api.ErrMoved}, {"ask in a gap", base(shards{stock(1, 1, sp("c", "m"))}), ask(0, 1, get("a")), api.ErrMoved}, {"ask at To", base(shards{stock(1, 1, sp("c", "m"))}), ask(0, 1, get("m")), api.ErrMoved}, {"ask at From", base(shards{stock(1, 1, sp("c", "m"))}), ask(0, 1, get("c")), api.OK}, {"ask of all, of two", base(shards{stock(1, 1, sp("c", "m"))}), ask(0, 1, batch("a", "c")), api.ErrMoved}, {"by the first key", base(shards{stock(1, 1, sp("c", "m"))}), ask(0, 1, batch("c", "z")), api.OK}, {"ill-formed, but with a key", two, ask(0, 1, api.Op{Kind: api.OGet, Key: "a", Value: "v"}), api.OK},
		{"freeze none", two, rec(api.RFreeze, 3, 1), api.ErrNone}, {"freeze 0", two, rec(api.RFreeze, 0, 0), api.ErrNone}, {"freeze an earlier one", two, rec(api.RFreeze, 2, 2), api.ErrNone}, {"freeze a later one", two, rec(api.RFreeze, 2, 4), api.ErrNone}, {"freeze one of the other's epoch", two, rec(api.RFreeze, 1, 3), api.ErrNone}, {"freeze", two, rec(api.RFreeze, 2, 3, -1, -1, -1), api.OK},
		{"thaw none", two, rec(api.RThaw, 3, 1), api.ErrNone}, {"thaw an earlier one", two, rec(api.RThaw, 2, 2), api.ErrNone}, {"thaw the last epoch", spent, rec(api.RThaw, 1, api.MaxEpoch), api.ErrForm}, {"thaw the last epoch, frozen", spent, rec(api.RThaw, 3, api.MaxEpoch), api.ErrForm}, {"thaw the last but one", spent, rec(api.RThaw, 2, api.MaxEpoch-1), api.OK}, {"thaw none of the last epoch", spent, rec(api.RThaw, 2, api.MaxEpoch), api.ErrNone},
		{"drop none", two, rec(api.RDrop, 3, 1), api.ErrNone}, {"drop an earlier one", over, rec(api.RDrop, 1, 1), api.ErrNone}, {"drop what isn't frozen", two, rec(api.RDrop, 2, 3), api.ErrNone}, {"drop", over, rec(api.RDrop, 1, 2), api.OK}, {"drop what went later already", spent, rec(api.RDrop, 2, api.MaxEpoch-1), api.OK},
		{"split none", two, at("o", rec(api.RSplit, 3, 1, 1, 2)), api.ErrNone}, {"split an earlier one", full, at("o", rec(api.RSplit, 2, 1, 2, 2)), api.ErrNone}, {"a is there", two, at("o", rec(api.RSplit, 2, 3, 1, 5)), api.ErrOrder}, {"b is there", two, at("o", rec(api.RSplit, 2, 3, 5, 1)), api.ErrOrder}, {"a is itself", two, at("o", rec(api.RSplit, 2, 3, 2, 5)), api.ErrOrder}, {"b is itself", two, at("o", rec(api.RSplit, 2, 3, 5, 2)), api.ErrOrder}, {"a is gone", two, at("o", rec(api.RSplit, 2, 3, 9, 5)), api.ErrOrder}, {"b is gone", two, at("o", rec(api.RSplit, 2, 3, 5, 9)), api.ErrOrder}, {"one that is there twice", two, at("", rec(api.RSplit, 2, 3, 1, 1)), api.ErrOrder},
		{"split of eight", full, at("\x01", rec(api.RSplit, 1, 1, 20, 21)), api.ErrFull}, {"split of nine", nine, at("\x01", rec(api.RSplit, 1, 1, 20, 21)), api.ErrFull}, {"split of seven", seven, at("a", rec(api.RSplit, 1, 1, 20, 21)), api.OK}, {"split of eight, there", full, at("a", rec(api.RSplit, 1, 1, 20, 8)), api.ErrOrder}, {"split of eight, one number", full, at("a", rec(api.RSplit, 1, 1, 20, 20)), api.ErrFull}, {"split of eight, no key", full, rec(api.RSplit, 1, 1, 20, 21), api.ErrFull}, {"split of eight, frozen", full, at("g", rec(api.RSplit, 3, 3, 20, 21)), api.ErrFull},
		{"split a frozen one", over, at("m", rec(api.RSplit, 1, 2, 21, 22)), api.ErrForm}, {"one number", two, at("o", rec(api.RSplit, 2, 3, 5, 5)), api.ErrForm}, {"number 0", two, at("o", rec(api.RSplit, 2, 3, 0, 5)), api.ErrForm}, {"number below", two, at("o", rec(api.RSplit, 2, 3, 5, -1)), api.ErrForm}, {"number above", two, at("o", rec(api.RSplit, 2, 3, 5, api.MaxRev+1)), api.ErrForm}, {"at its From", two, at("m", rec(api.RSplit, 2, 3, 5, 6)), api.ErrOrder}, {"at no key", two, rec(api.RSplit, 2, 3, 5, 6), api.ErrOrder}, {"below", two, at("c", rec(api.RSplit, 2, 3, 5, 6)), api.ErrOrder}, {"number 0 at its From", two, at("m", rec(api.RSplit, 2, 3, 0, 5)), api.ErrForm},
		{"join none", two, rec(api.RJoin, 3, 1, 2, 3, 5), api.ErrNone}, {"join with none", two, rec(api.RJoin, 1, 1, 3, 1, 1), api.ErrNone}, {"join an earlier one", two, rec(api.RJoin, 1, 0, 2, 3, 5), api.ErrNone}, {"join with an earlier one", two, rec(api.RJoin, 1, 1, 2, 2, 5), api.ErrNone}, {"join with a later one", two, rec(api.RJoin, 1, 1, 2, 4, 5), api.ErrNone}, {"join the numbers in another order", two, rec(api.RJoin, 1, 3, 2, 1, 5), api.ErrNone}, {"the new one is the lower one", two, rec(api.RJoin, 1, 1, 2, 3, 1), api.ErrOrder}, {"the new one is the upper one", two, rec(api.RJoin, 1, 1, 2, 3, 2), api.ErrOrder}, {"the new one is gone", two, rec(api.RJoin, 1, 1, 2, 3, 9), api.ErrOrder}, {"the new one is gone, and frozen", over, rec(api.RJoin, 1, 2, 2, 1, 5), api.ErrOrder},
		{"join itself", two, rec(api.RJoin, 1, 1, 1, 1, 5), api.ErrOrder}, {"join with itself, new number 0", two, rec(api.RJoin, 1, 1, 1, 1, 0), api.ErrForm}, {"join a frozen one", full, rec(api.RJoin, 3, 3, 4, 4, 20), api.ErrForm}, {"join with a frozen one", full, rec(api.RJoin, 2, 2, 3, 3, 20), api.ErrForm}, {"join across a gap", full, rec(api.RJoin, 4, 4, 6, 6, 20), api.ErrOrder}, {"join downward", full, rec(api.RJoin, 5, 5, 4, 4, 20), api.ErrOrder}, {"new number above", two, rec(api.RJoin, 1, 1, 2, 3, api.MaxRev+1), api.ErrForm}, {"join of eight", full, rec(api.RJoin, 4, 4, 5, 5, 20), api.OK}, {"join of nine", nine, rec(api.RJoin, 8, 8, 9, 9, api.MaxRev), api.OK},
		{"install what is there", two, install(2, 4, frozen(stock(2, 3, all))), api.ErrOrder}, {"install what is there, no image", two, bytes(2, 4, ""), api.ErrOrder}, {"install what is there, frozen", over, install(1, 3, frozen(stock(1, 2, all))), api.ErrOrder}, {"install under the epoch that went", two, install(9, 4, frozen(stock(9, 3, all))), api.ErrOrder}, {"install under an earlier one", two, install(9, 3, frozen(stock(9, 2, all))), api.ErrOrder}, {"install under epoch 0", two, bytes(20, 0, late), api.ErrOrder}, {"install under epoch below", two, bytes(20, -1, late), api.ErrOrder}, {"install under the least epoch", two, bytes(20, math.MinInt, late), api.ErrOrder}, {"install under the last epoch that went", seven, bytes(9, api.MaxEpoch, "\x80"), api.ErrOrder}, {"install what went, eight", base(row(8), api.Gone{ID: 20, Epoch: 4}), bytes(20, 4, late), api.ErrOrder},
		{"install nothing", two, bytes(20, 4, ""), api.ErrShort}, {"install half an image", two, bytes(20, 4, late[:len(late)-1]), api.ErrShort}, {"install a spoilt one", two, bytes(20, 4, late[:len(late)-1]+"\x7f"), api.ErrSpoilt}, {"install no length", two, bytes(20, 4, "sum,\x80"), api.ErrForm}, {"install two", two, bytes(20, 4, late+late), api.ErrForm}, {"install too large a one", two, install(20, 4, frozen(large)), api.ErrLarge}, {"install nothing, eight", full, bytes(20, 4, ""), api.ErrShort}, {"install nothing under an epoch above", two, bytes(20, api.MaxEpoch+1, ""), api.ErrShort},
		{"install what isn't frozen", two, install(20, 4, stock(20, 3, all)), api.ErrForm}, {"install another one", two, bytes(21, 4, late), api.ErrForm}, {"install 0", two, bytes(0, 4, late), api.ErrForm}, {"install under its own epoch", two, bytes(20, 3, late), api.ErrForm}, {"install under one more", two, bytes(20, 5, late), api.ErrForm}, {"install under epoch 1", two, bytes(20, 1, late), api.ErrForm}, {"install under the greatest epoch", two, bytes(20, math.MaxInt, late), api.ErrForm}, {"install above the last epoch", two, install(20, api.MaxEpoch+1, frozen(stock(20, api.MaxEpoch, all))), api.ErrForm}, {"install under the last epoch", two, install(20, api.MaxEpoch, frozen(stock(20, api.MaxEpoch-1, all))), api.OK}, {"install what isn't frozen, eight", full, install(20, 4, stock(20, 3, all)), api.ErrForm}, {"install another one, eight", full, bytes(21, 4, late), api.ErrForm},
		{"install the eighth", seven, bytes(20, 4, late), api.OK}, {"install the ninth", full, bytes(20, 4, late), api.ErrFull}, {"install the tenth", nine, bytes(20, 4, late), api.ErrFull}, {"install behind Gone", base(row(7), api.Gone{ID: 20, Epoch: 3}), bytes(20, 4, late), api.OK},
	} {
		h, m := both(t, x.start)
		a, err := step(t, h, m, x.r)
		if !isCode(err, x.code) || err != nil && !op.SameAnswer(a, api.Answer{}) {
			t.Errorf("P18.2: %s: %#v, %v; not %d", x.name, a, err, x.code)
		}
		want, _ := both(t, x.start)
		if err != nil && !sameRecord(h.Base(), want.Base()) {
			t.Errorf("P18.2: %s changed something: %#v, not %#v", x.name, h.Base(), want.Base())
		}
	}
}

// P18.2: what went under a later epoch already stays so, and the epochs of both that are joined are told.
func TestGone(t *testing.T) {
	h, m := both(t, bases()[7])
	step(t, h, m, rec(api.RDrop, 2, api.MaxEpoch-1))
	if h.Gone(2) != api.MaxEpoch {
		t.Errorf("P18.1: Gone(2): %d", h.Gone(2))
	}
	h, m = both(t, base(shards{shard.New(1, 1, all)}))
	for epoch := 1; epoch < 20; epoch++ { // it comes back, again and again
		step(t, h, m, rec(api.RFreeze, 1, epoch))
		s, _ := h.Get(1)
		for _, r := range []api.Record{rec(api.RDrop, 1, epoch), install(1, epoch+1, s), install(1, epoch+1, s)} {
			step(t, h, m, r)
		}
		if got, there := h.Get(1); !there || got.Epoch != epoch+1 || got.Frozen || h.Gone(1) != epoch {
			t.Fatalf("P18.2: %#v, %v, gone %d", got, there, h.Gone(1))
		}
	}
}

// P18.2: of all bases all records, good and wrong: what is answered, and all there is behind it.
func TestDoOfAll(t *testing.T) {
	good := map[int]int{}
	for _, start := range bases() {
		h, m := both(t, start)
		for _, r := range records() {
			if _, err := step(t, h, m, r); err == nil {
				good[r.Kind]++
				h, m = both(t, start)
			}
		}
	}
	for kind := api.RBase; kind <= api.RJoin; kind++ {
		if good[kind] < 7 {
			t.Errorf("P18.2: %d good ones of Kind %d: too few to tell much", good[kind], kind)
		}
	}
}

// records: of all Kinds, and of none.
func records() []api.Record {
	l := append(bases(), api.Record{}, rec(9, 1, 1), rec(-1, 1, 1))
	ids, epochs := []int{-1, 0, 1, 2, 3, 9}, []int{-1, 0, 1, 2, 3, api.MaxEpoch - 1, api.MaxEpoch, math.MaxInt}
	for _, id := range ids {
		for _, epoch := range epochs {
			for _, kind := range []int{api.RFreeze, api.RThaw, api.RDrop} {
				l = append(l, rec(kind, id, epoch))
			}
		}
	}
	numbers := []int{0, 1, 5, 9, 21, 22, api.MaxRev, api.MaxRev + 1}
	for _, old := range [][2]int{{1, 1}, {1, 2}, {2, 1}, {2, 2}, {2, 3}, {1, api.MaxEpoch}, {7, 7}, {3, 3}} {
		for _, a := range numbers {
			for _, b := range numbers {
				for _, key := range []string{"", "a", "c", "o", tooLong} {
					l = append(l, at(key, rec(api.RSplit, old[0], old[1], a, b)))
				}
			}
			for _, hi := range [][2]int{{1, 1}, {2, 2}, {2, 3}, {2, 1}, {3, 3}, {8, 8}, {6, 6}} {
				l = append(l, rec(api.RJoin, old[0], old[1], hi[0], hi[1], a))
			}
		}
	}
	for _, s := range []api.Shard{frozen(stock(20, 1, all)), frozen(stock(21, 3, sp("b", "n"))), stock(21, 3, sp("b", "n")), frozen(stock(9, 4, sp("m", ""))), frozen(stock(5, 2, all)), frozen(shard.New(22, api.MaxEpoch, all)), frozen(stock(1, 2, all))} {
		for _, id := range []int{0, 1, 5, 9, 20, 21, 22} {
			for _, epoch := range []int{0, 1, 2, 3, 4, 5, api.MaxEpoch, api.MaxEpoch + 1} {
				b := image.Bytes(s)
				l = append(l, bytes(id, epoch, b), bytes(id, epoch, b[1:]), bytes(id, epoch, b[:len(b)-1]), bytes(id, epoch, b+"\x00"))
			}
		}
	}
	ops := []api.Op{put("a", "new"), put("m", tooMuch), put("zz", ""), get("c"), get("m"), get(tooLong), between("a", "c"), between("c", ""), between("m", "x"), batch("a", "b", "m"), batch("m", "x"), batch(), {Kind: api.ODel, Key: "x"}, {Kind: api.ODel, Key: "zz"}, {Kind: api.OCas, Key: "m", Value: "c", Version: 2}, {Kind: api.OCas, Key: "m", Value: "c", Version: 1}, {Kind: api.OCompact, Key: "m", Version: 1}, {}, {Kind: 8, Key: "a"}, {Kind: api.OPut, Key: "a", To: "b"}}
	for _, o := range ops {
		for _, n := range [][2]int{{0, 1}, {0, 99}, {1, 2}, {1, 3}, {2, 9}, {2, 10}, {1, 0}, {-1, 1}, {3, 1}} {
			l = append(l, ask(n[0], n[1], o))
		}
	}
	return l
}

// replayed: what these make, one by one, of a new one.
func replayed(t *testing.T, l []api.Record) *hold.Hold {
	t.Helper()
	h := hold.New()
	for _, r := range l {
		if _, err := h.Do(r); err != nil {
			t.Fatalf("P18.4: %.999q, done again: %v", say(r), err)
		}
	}
	return h
}

// again: r is done, and done once more: that changes nothing, and a request is answered the same.
func again(t *testing.T, h *hold.Hold, m *model, r api.Record) error {
	t.Helper()
	a, err := step(t, h, m, r)
	was := h.Base()
	b, other := h.Do(r)
	if !sameRecord(h.Base(), was) || r.Kind == api.RAsk && !(op.SameAnswer(a, b) && isCode(other, fault.Code(err))) || err != nil && !isCode(other, fault.Code(err)) {
		t.Fatalf("P18.4: %.999q once more: %#v, %v; first %#v, %v; %#v, not %#v", say(r), b, other, a, err, h.Base(), was)
	}
	return err
}

// P18.4: whatever is done once more, be it good or not, makes the same.
func TestOnceMore(t *testing.T) {
	for _, start := range bases() {
		h, m := both(t, start)
		for _, r := range records() {
			again(t, h, m, r)
			h, m = both(t, start)
		}
	}
}

// P18.2, P18.4: by all orders of some records, each as often as may be: what is answered and what there is; and the good ones make the same again, alone, behind a Base, and by their Bytes.
func TestOrders(t *testing.T) {
	empty := func(id, epoch int, p api.Span) api.Shard { return frozen(shard.New(id, epoch, p)) }
	l := []api.Record{
		ask(0, 1, put("a", "1")), ask(0, 1, put("n", "2")), ask(1, 1, batch("a", "n")), ask(0, 2, api.Op{Kind: api.ODel, Key: "a"}), ask(2, 1, between("a", "")), rec(api.RFreeze, 1, 1), rec(api.RThaw, 1, 1), rec(api.RDrop, 1, 1), install(1, 2, empty(1, 1, all)),
		at("m", rec(api.RSplit, 1, 1, 2, 3)), rec(api.RJoin, 2, 1, 3, 1, 4), rec(api.RFreeze, 2, 1), rec(api.RDrop, 2, 1), rec(api.RThaw, 2, 1), install(2, 2, empty(2, 1, sp("", "m"))), at("c", rec(api.RSplit, 2, 2, 5, 6)),
	}
	start := base(shards{shard.New(1, 1, all)})
	rows := 0
	var goOn func(did []api.Record, depth int)
	goOn = func(did []api.Record, depth int) {
		if depth == 0 {
			return
		}
		from := carried(t, replayed(t, did).Base())
		for _, r := range l {
			h, m := both(t, from)
			if again(t, h, m, r) != nil {
				continue
			}
			more := append(slices.Clone(did), r)
			if got := replayed(t, more).Base(); !sameRecord(got, h.Base()) {
				t.Fatalf("P18.4: %d records, done again: %#v, not %#v", len(more), got, h.Base())
			}
			rows++
			goOn(more, depth-1)
		}
	}
	goOn([]api.Record{start}, 5)
	if rows < 5000 {
		t.Errorf("P18.4: %d rows: too few to tell much", rows)
	}
}

// P18.2, P18.4: in long rows of records, with crashes and bases between: what is answered, what there is, and that all of it is there again.
func TestGoesOn(t *testing.T) {
	good := map[int]int{}
	for seed := range uint64(12) {
		h, m := both(t, base(shards{shard.New(1, 1, all)}))
		did, number := []api.Record{base(shards{shard.New(1, 1, all)})}, 1
		dice := rand.New(rand.NewPCG(seed, 18))
		var images shards // of what was dropped, to come back
		for i := range 1500 {
			r := some(dice, m, i, &number, images)
			was, there := m.shards[r.N[0]]
			if _, err := step(t, h, m, r); err == nil {
				did = append(did, r)
				good[r.Kind]++
				if r.Kind == api.RDrop && there {
					images = append(images, was)
				}
			}
			switch i % 100 {
			case 33: // a crash
				var kept []api.Record
				for _, r := range did {
					kept = append(kept, carried(t, r))
				}
				h = replayed(t, kept)
			case 66: // a trim
				did = []api.Record{h.Base()}
			}
			if !m.is(h) {
				t.Fatalf("P18.4: step %d: %#v, not %#v", i, h.Base(), m.ordered())
			}
		}
	}
	for kind := api.RAsk; kind <= api.RJoin; kind++ {
		if good[kind] < 100 {
			t.Errorf("P18.2: %v: too few of Kind %d to tell much", good, kind)
		}
	}
}

// some: a record that may well be good.
func some(dice *rand.Rand, m *model, i int, number *int, images shards) api.Record {
	l := m.ordered()
	if len(l) == 0 {
		*number++
		return install(*number, 2, frozen(shard.New(*number, 1, all)))
	}
	key := string(rune('a' + dice.IntN(26)))
	s := l[dice.IntN(len(l))]
	switch dice.IntN(8) {
	case 0:
		return rec(api.RFreeze, s.ID, s.Epoch)
	case 1:
		return rec(api.RThaw, s.ID, s.Epoch)
	case 2:
		return rec(api.RDrop, s.ID, s.Epoch)
	case 3:
		if len(images) > 0 {
			x := images[len(images)-1-dice.IntN(min(3, len(images)))]
			return install(x.ID, x.Epoch+1, x)
		}
		fallthrough
	case 4:
		*number += 2
		return at(key, rec(api.RSplit, s.ID, s.Epoch, *number-1, *number))
	case 5:
		o := l[min(slices.IndexFunc(l, func(x api.Shard) bool { return x.ID == s.ID })+1, len(l)-1)]
		*number++
		return rec(api.RJoin, s.ID, s.Epoch, o.ID, o.Epoch, *number)
	case 6:
		return ask(i%3, i, batch(key, key+"1"))
	default:
		return ask(i%3, i, put(key, strconv.Itoa(i)))
	}
}

// P18.2: a shard goes from one to the other and back, and whatever was said to one of them comes late and twice, no key is in two that aren't frozen, and what was done is known.
func TestTwo(t *testing.T) {
	var holds [2]*hold.Hold
	var models [2]*model
	holds[0], models[0] = both(t, base(shards{shard.New(1, 1, all)}))
	holds[1], models[1] = both(t, base(nil))
	step(t, holds[0], models[0], ask(0, 1, put("a", "1")))
	var late [2][]api.Record
	for epoch := 1; epoch < 10; epoch++ {
		from, to := (epoch+1)%2, epoch%2
		do := func(at int, r api.Record) (api.Answer, error) { return step(t, holds[at], models[at], r) }
		do(from, rec(api.RFreeze, 1, epoch))
		s, _ := holds[from].Get(1)
		late[to] = append(late[to], install(1, epoch+1, s))
		for i, r := range slices.Repeat(late[to], 2) {
			if _, err := do(to, r); !isCode(err, api.ErrOrder) && i != len(late[to])-1 {
				t.Fatalf("P18.2: epoch %d: install %d: %v", epoch, i, err)
			}
		}
		if _, err := do(from, rec(api.RDrop, 1, epoch)); err != nil {
			t.Fatalf("P18.2: epoch %d: drop: %v", epoch, err)
		}
		for _, r := range late[from] {
			if _, err := do(from, r); !isCode(err, api.ErrOrder) {
				t.Fatalf("P18.2: epoch %d: %d comes back: %v", epoch, r.N[1], err)
			}
		}
		if _, err := do(from, ask(0, 1, put("a", "1"))); !isCode(err, api.ErrMoved) {
			t.Fatalf("P18.2: epoch %d: %v", epoch, err)
		}
		if a, err := do(to, ask(0, 1, put("a", "again"))); err != nil || a.Version != 1 {
			t.Fatalf("P18.2: epoch %d: %#v, %v", epoch, a, err)
		}
	}
}
