package node_test

import (
	"errors"
	"fmt"
	"slices"
	"strings"
	"testing"

	"estuary/api"
	"estuary/fault"
	"estuary/frame"
	"estuary/hold"
	"estuary/image"
	"estuary/letter"
	"estuary/node"
	"estuary/op"
	"estuary/shard"
)

type shards = []api.Shard

var (
	all     = api.Span{}
	none    = api.Shard{}
	longest = strings.Repeat("k", api.MaxKey)
	fullest = strings.Repeat("v", api.MaxValue)
	mostAsk = strings.Repeat("v", 40) // bytes that may be asked for
)

func sp(from, to string) api.Span { return api.Span{From: from, To: to} }

func put(key, value string) api.Op { return api.Op{Kind: api.OPut, Key: key, Value: value} }

func get(key string) api.Op { return api.Op{Kind: api.OGet, Key: key} }

func between(key, to string) api.Op { return api.Op{Kind: api.ORange, Key: key, To: to} }

func batch(value string, keys ...string) api.Op {
	o := api.Op{Kind: api.OBatch}
	for _, key := range keys {
		o.Writes = append(o.Writes, api.Write{Key: key, Value: value})
	}
	return o
}

func frozen(s api.Shard) api.Shard {
	s.Frozen = true
	return s
}

// stock: a shard that was asked this and that: with cells, events, Floors, and Done of which one has Rows.
func stock(id, epoch int, p api.Span) api.Shard {
	s := shard.New(id, epoch, p)
	for i, o := range []api.Op{put("a", "1"), put("m", "2"), put("c", "3"), put("m", "4"), {Kind: api.OCompact, Key: "c", Version: 1}, {Kind: api.OCompact, Key: "x", Version: 1}, {Kind: api.ODel, Key: "c"}, put("x", "5")} {
		if o.Key >= p.From && (p.To == "" || o.Key < p.To) {
			s, _, _ = shard.Ask(s, i%2, i+1, o)
		}
	}
	s.Done = append(s.Done, api.Done{Session: 2, ID: 9, Answer: api.Answer{Code: 14, Rows: []api.Row{{Key: "row", Version: 1}, {Key: "two"}}}})
	if !shard.Is(s) {
		panic(fmt.Sprint("no shard: ", id))
	}
	return s
}

// row: so many shards that touch, of Epochs as their numbers.
func row(n int) shards {
	var l shards
	from := ""
	for i := range n {
		to := string(rune('b' + 2*i))
		if i == n-1 {
			to = ""
		}
		l = append(l, shard.New(i+1, i+1, sp(from, to)))
		from = to
	}
	return l
}

// to: a letter from the mover to node 1.
func to(kind int, n ...int) api.Letter {
	l := api.Letter{Kind: kind, From: api.Mover, To: 1}
	copy(l.N[:], n)
	return l
}

// asked: a session's request, to node 1.
func asked(session, id int, o api.Op) api.Letter {
	return api.Letter{Kind: api.LAsk, From: api.Sessions + session, To: 1, N: [5]int{id}, Op: o}
}

// poll: session 2's, to node 1.
func poll(p api.Span, n []int, seen ...api.Seen) api.Letter {
	l := api.Letter{Kind: api.LPoll, From: api.Sessions + 2, To: 1, Span: p, Seen: seen}
	copy(l.N[:], n)
	return l
}

func with(data string, l api.Letter) api.Letter {
	l.Data = data
	return l
}

func in(p api.Span, l api.Letter) api.Letter {
	l.Span = p
	return l
}

func from(who int, l api.Letter) api.Letter {
	l.From = who
	return l
}

// model: the document's words once more, in another way than the program's: it has records instead of a disk, and does each one on a copy.
type model struct {
	id     int
	done   []api.Record
	sizes  []int // of each
	synced int   // so many of them
	h      *hold.Hold
	pieces map[[3]int]string
	waits  []api.Letter
}

func newModel(id int, first shards) *model {
	m := &model{id: id}
	m.crash(0)
	var good shards
	for _, s := range first {
		if shard.Is(s) {
			good = append(good, s)
		}
	}
	m.do(api.Record{Kind: api.RBase, Shards: good})
	m.sync()
	return m
}

// sizeOf: on the disk.
func sizeOf(r api.Record) int { return len(frame.Wrap(hold.Bytes(r))) }

func sum(sizes []int) int {
	n := 0
	for _, size := range sizes {
		n += size
	}
	return n
}

func replayed(records []api.Record) *hold.Hold {
	h := hold.New()
	for _, r := range records {
		if _, err := h.Do(r); err != nil {
			panic(err)
		}
	}
	return h
}

const (
	could = iota
	refused
	noRoom
)

func (m *model) do(r api.Record) (api.Answer, int) {
	beside := replayed([]api.Record{m.h.Base()})
	a, err := beside.Do(r)
	switch {
	case err != nil || hold.Bytes(r) == "":
		return api.Answer{}, refused
	case sizeOf(r) > m.free():
		return api.Answer{}, noRoom
	}
	m.done, m.sizes, m.h = append(m.done, r), append(m.sizes, sizeOf(r)), beside
	return a, could
}

func (m *model) sync() []api.Letter {
	l := m.waits
	m.waits, m.synced = nil, len(m.done)
	return l
}

func (m *model) loose() int { return sum(m.sizes[m.synced:]) }

func (m *model) free() int { return 200000 - sum(m.sizes) }

func (m *model) crash(keep int) {
	for m.synced < len(m.done) && m.sizes[m.synced] <= keep {
		keep -= m.sizes[m.synced]
		m.synced++
	}
	m.done, m.sizes = m.done[:m.synced], m.sizes[:m.synced]
	m.h, m.pieces, m.waits = replayed(m.done), map[[3]int]string{}, nil
}

func (m *model) trim() api.Errno {
	base := m.h.Base()
	if sizeOf(base) > 200000 {
		return api.ErrFull
	}
	m.done, m.sizes, m.synced = []api.Record{base}, []int{sizeOf(base)}, 1
	return api.OK
}

func (m *model) say(l api.Letter, kind int, rest ...int) *api.Letter {
	back := api.Letter{Kind: kind, From: m.id, To: l.From, N: l.N}
	copy(back.N[2:], append(rest, 0, 0, 0)[:3])
	m.waits = append(m.waits, back)
	return &m.waits[len(m.waits)-1]
}

func (m *model) take(l api.Letter) {
	if l.To != m.id || !letter.Is(l) {
		return
	}
	it, there := m.h.Get(l.N[0])
	isIt := there && it.Epoch == l.N[1]
	switch l.Kind {
	case api.LAsk:
		m.takeAsk(l)
	case api.LPoll:
		m.takePoll(l)
	case api.LFreeze:
		if !isIt || !it.Frozen && m.try(api.RFreeze, l) != could {
			return
		}
		it.Frozen = true
		m.say(l, api.LFrozen, (len(image.Bytes(it))+63)/64)
	case api.LPull:
		if b, at := image.Bytes(it), l.N[2]; isIt && it.Frozen && at*64 < len(b) {
			m.say(l, api.LPiece, at).Data = b[at*64 : min(at*64+64, len(b))]
		}
	case api.LThaw:
		if m.try(api.RThaw, l) == could || there && it.Epoch > l.N[1] {
			m.say(l, api.LThawed)
		}
	case api.LDrop:
		if m.try(api.RDrop, l) == could || !isIt {
			m.say(l, api.LDropped)
		}
	case api.LSplit:
		m.takeCut(l, api.RSplit, l.N[2])
	case api.LJoin:
		m.takeCut(l, api.RJoin, l.N[4])
	default:
		m.takePieces(l)
	}
}

func (m *model) try(kind int, l api.Letter) int {
	_, how := m.do(api.Record{Kind: kind, N: [5]int{l.N[0], l.N[1]}})
	return how
}

func (m *model) takeAsk(l api.Letter) {
	session := l.From - 200
	if session < 0 || l.N[0] == 0 {
		return
	}
	l.N[1] = 0
	s, there := m.h.Find(op.Key(l.Op))
	if !there {
		m.say(l, api.LAnswer).Answer.Code = 17
		return
	}
	_, a, was := shard.Ask(s, session, l.N[0], l.Op)
	if was == 2 {
		return
	}
	if was == 0 && op.Writes(l.Op) {
		var how int
		if a, how = m.do(api.Record{Kind: api.RAsk, N: [5]int{session, l.N[0]}, Op: l.Op}); how != could {
			return
		}
	}
	m.say(l, api.LAnswer).Answer = a
}

func (m *model) takePoll(l api.Letter) {
	credit := l.N[1]
	l.N[1] = 0
	s, there := m.h.At(l.Span.From)
	if !there {
		m.say(l, api.LFeed, l.N[2], 2)
		return
	}
	events, compacted := shard.Feed(s, l.Span, l.Seen, credit)
	n3, n4, till := 0, 0, l.Span.To
	if compacted {
		n3 = 1
	}
	if s.Span.To != "" && (till == "" || till > s.Span.To) {
		n4, till = 1, s.Span.To
	}
	back := m.say(l, api.LFeed, l.N[2], n3, n4)
	back.Span, back.Events = sp(l.Span.From, till), events
}

func (m *model) takeCut(l api.Letter, kind, first int) {
	_, how := m.do(api.Record{Kind: kind, N: l.N, Key: l.Span.From})
	if how == noRoom {
		return
	}
	if how == could || !(m.h.Gone(l.N[0]) < l.N[1]) {
		m.say(l, api.LCut, 0, first)
	} else {
		m.say(l, api.LCut, 1, first)
	}
}

func (m *model) takePieces(l api.Letter) {
	id, epoch, n := l.N[0], l.N[1], l.N[2]
	switch l.Kind {
	case api.LPush:
		if n > 999 {
			return
		}
		for at := range m.pieces {
			if at[0] != id || at[1] != epoch {
				delete(m.pieces, at)
			}
		}
		m.pieces[[3]int{id, epoch, n}] = l.Data
		m.say(l, api.LPushed, n)
	case api.LInstall:
		it, there := m.h.Get(id)
		how := refused
		data, kept := "", 0
		for kept < 1000 && kept < n {
			piece, ok := m.pieces[[3]int{id, epoch, kept}]
			if !ok {
				break
			}
			data, kept = data+piece, kept+1
		}
		if m.h.Gone(id) >= epoch || there && it.Epoch >= epoch {
			how = could
		} else if n >= 1 && kept == n {
			_, how = m.do(api.Record{Kind: api.RInstall, N: [5]int{id, epoch}, Data: data})
		}
		if how != noRoom {
			m.say(l, api.LInstalled, how)
		}
	}
}

// isCode: whether err is what the document means by an error with this Code, and by no other one.
func isCode(err error, code api.Errno) bool {
	if code == api.OK {
		return err == nil
	}
	for other := api.ErrForm; other <= api.ErrLine; other++ {
		if errors.Is(err, other) != (other == code) {
			return false
		}
	}
	return fault.Code(err) == code && err.Error() != ""
}

func sameHold(a, b *hold.Hold) bool {
	x, y := a.Base(), b.Base()
	return slices.EqualFunc(x.Shards, y.Shards, shard.Same) && slices.Equal(x.Gone, y.Gone)
}

// both: a node and its model from these on.
func both(t *testing.T, id int, first shards) (*node.Node, *model) {
	t.Helper()
	n, m := node.New(id, first), newModel(id, first)
	same(t, n, m, "New")
	if n.Loose() != 0 || n.Waits() != 0 {
		t.Fatalf("P19.1: New: Loose %d, Waits %d", n.Loose(), n.Waits())
	}
	return n, m
}

// same: whether all that a node tells is what its model has; what waits is looked at by synced.
func same(t *testing.T, n *node.Node, m *model, behind ...any) {
	t.Helper()
	if !sameHold(n.Hold(), m.h) || n.Loose() != m.loose() || n.Waits() != len(m.waits) {
		t.Fatalf("P19.1: behind %.999s: %s, Loose %d, Waits %d; not %s, %d, %d", fmt.Sprint(behind...), say(n.Hold()), n.Loose(), n.Waits(), say(m.h), m.loose(), len(m.waits))
	}
}

// take: by both.
func take(t *testing.T, n *node.Node, m *model, l api.Letter) {
	t.Helper()
	n.Take(l)
	m.take(l)
	same(t, n, m, l)
}

// synced: by both; what goes.
func synced(t *testing.T, n *node.Node, m *model, behind ...any) []api.Letter {
	t.Helper()
	got, want := n.Sync(), m.sync()
	if !slices.EqualFunc(got, want, letter.Same) || slices.ContainsFunc(got, func(l api.Letter) bool { return !letter.Is(l) }) {
		t.Fatalf("P19.2: behind %.999s: %+v; not %+v", fmt.Sprint(behind...), got, want)
	}
	same(t, n, m, "Sync")
	return got
}

// crash, trim: by both.
func crash(t *testing.T, n *node.Node, m *model, keep int) {
	t.Helper()
	n.Crash(keep)
	m.crash(keep)
	same(t, n, m, "Crash ", keep)
}

func trim(t *testing.T, n *node.Node, m *model) {
	t.Helper()
	err, code := n.Trim(), m.trim()
	if !isCode(err, code) {
		t.Fatalf("P19.1: Trim: %v, not %d", err, code)
	}
	same(t, n, m, "Trim")
}

func say(h *hold.Hold) string {
	out := ""
	for _, s := range h.Shards() {
		out += fmt.Sprintf("%d/%d %q-%q frozen %v, %d cells, %d events, done %.200s; ", s.ID, s.Epoch, s.Span.From, s.Span.To, s.Frozen, len(s.Cells), len(s.Events), fmt.Sprint(s.Done))
	}
	return out + fmt.Sprint("gone ", h.Base().Gone)
}
