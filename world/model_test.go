package world_test

import (
	"fmt"
	"math/rand"
	"slices"
	"strings"
	"testing"

	"estuary/api"
	"estuary/bag"
	"estuary/fault"
	"estuary/letter"
	"estuary/mover"
	"estuary/node"
	"estuary/session"
	"estuary/shard"
	"estuary/world"
)

type (
	acts    = []api.Act
	letters = []api.Letter
	seens   = []api.Seen
)

var (
	longest = strings.Repeat("k", api.MaxKey)
	tooLong = strings.Repeat("k", api.MaxKey+1)
)

func sp(from, to string) api.Span { return api.Span{From: from, To: to} }

func seen(key string, version int) api.Seen { return api.Seen{Key: key, Version: version} }

func get(key string) api.Op { return api.Op{Kind: api.OGet, Key: key} }

func put(key, value string) api.Op { return api.Op{Kind: api.OPut, Key: key, Value: value} }

func batch(value string, keys ...string) api.Op {
	o := api.Op{Kind: api.OBatch}
	for _, k := range keys {
		o.Writes = append(o.Writes, api.Write{Key: k, Value: value})
	}
	return o
}

func ask(who int, o api.Op) api.Act { return api.Act{Kind: api.AAsk, Who: who, Op: o} }

func watch(who int, from, to string, l ...api.Seen) api.Act {
	return api.Act{Kind: api.AWatch, Who: who, Span: sp(from, to), Seen: l}
}

func poll(who, n, credit int) api.Act { return api.Act{Kind: api.APoll, Who: who, N: n, M: credit} }

func cancel(who, n int) api.Act { return api.Act{Kind: api.ACancel, Who: who, N: n} }

func deliver(n int) api.Act { return api.Act{Kind: api.ADeliver, N: n} }

func lose(n int) api.Act { return api.Act{Kind: api.ALose, N: n} }

func twice(n int) api.Act { return api.Act{Kind: api.ATwice, N: n} }

func tick() api.Act { return api.Act{Kind: api.ATick} }

func sync(node int) api.Act { return api.Act{Kind: api.ASync, Who: node} }

func crash(node, keep int) api.Act { return api.Act{Kind: api.ACrash, Who: node, N: keep} }

func trim(node int) api.Act { return api.Act{Kind: api.ATrim, Who: node} }

func move(key string, node int) api.Act { return api.Act{Kind: api.AMove, Key: key, Who: node} }

func split(key string) api.Act { return api.Act{Kind: api.ASplit, Key: key} }

func join(key string) api.Act { return api.Act{Kind: api.AJoin, Key: key} }

func abort() api.Act { return api.Act{Kind: api.AAbort} }

// parts: what a world has, or a model of one.
type parts struct {
	nodes    []*node.Node
	mover    *mover.State
	sessions []*session.Session
	bag      *bag.Bag
	now      int
}

func partsOf(w *world.World) parts {
	p := parts{mover: w.Mover(), bag: w.Bag(), now: w.Now()}
	for i := range api.MaxNodes {
		p.nodes = append(p.nodes, w.Node(i))
	}
	for i := range api.MaxSessions {
		p.sessions = append(p.sessions, w.Session(i))
	}
	return p
}

// state: all that can be looked at, as a text.
func (p parts) state() string {
	var b strings.Builder
	fmt.Fprintf(&b, "now %d\n", p.now)
	for i, n := range p.nodes {
		fmt.Fprintf(&b, "node %d: %+v, loose %d, waits %d\n", i, n.Hold().Base(), n.Loose(), n.Waits())
	}
	fmt.Fprintf(&b, "mover: %+v, %+v\n", p.mover.Plan(), p.mover.Job())
	for i, s := range p.sessions {
		fmt.Fprintf(&b, "session %d: %v, %+v, %+v\n", i, s.Busy(), s.Calls(), s.Told())
		for n := range s.Watches() {
			x, ok := s.Get(n)
			fmt.Fprintf(&b, "\twatch %+v, %v\n", x, ok)
		}
	}
	for _, l := range p.bag.All() {
		fmt.Fprintf(&b, "letter %+v\n", l)
	}
	return b.String()
}

func state(w *world.World) string { return partsOf(w).state() }

// model: the document's words once more, with parts of its own.
type model struct{ parts }

func newModel() *model {
	m := &model{parts{mover: mover.New(), bag: bag.New()}}
	m.nodes = []*node.Node{node.New(0, []api.Shard{{ID: 1, Epoch: 1}}), node.New(1, nil), node.New(2, nil)}
	m.sessions = []*session.Session{session.New(0), session.New(1), session.New(2)}
	return m
}

// do: by a table of what each Kind is about.
func (m *model) do(a api.Act) error {
	m.now++
	about := " ssss----nnn----"
	if a.Kind < 1 || a.Kind > 15 {
		return api.ErrForm
	}
	if about[a.Kind] != '-' && (a.Who < 0 || a.Who > 2) {
		return api.ErrPlace
	}
	deeds := []func() (letters, error){
		func() (letters, error) { return m.sessions[a.Who].Ask(a.Op, m.now) },
		func() (letters, error) { _, err := m.sessions[a.Who].Watch(a.Span, a.Seen); return nil, err },
		func() (letters, error) { return m.sessions[a.Who].Poll(a.N, a.M) },
		func() (letters, error) { return nil, m.sessions[a.Who].Cancel(a.N) },
		func() (letters, error) { return m.deliver(a.N) },
		func() (letters, error) { return nil, m.bag.Lose(a.N) },
		func() (letters, error) { return nil, m.bag.Twice(a.N) },
		func() (letters, error) {
			l := m.mover.Tick()
			for _, s := range m.sessions {
				l = slices.Concat(l, s.Tick(m.now))
			}
			return l, nil
		},
		func() (letters, error) { return m.nodes[a.Who].Sync(), nil },
		func() (letters, error) { m.nodes[a.Who].Crash(a.N); return nil, nil },
		func() (letters, error) { return nil, m.nodes[a.Who].Trim() },
		func() (letters, error) { return m.mover.Move(a.Key, a.Who) },
		func() (letters, error) { return m.mover.Split(a.Key) },
		func() (letters, error) { return m.mover.Join(a.Key) },
		func() (letters, error) { return m.mover.Abort() },
	}
	said, err := deeds[a.Kind-1]()
	for _, l := range said {
		m.bag.Put(l)
	}
	return err
}

// deliver: each one takes what is to it alone, so all may be handed it.
func (m *model) deliver(i int) (letters, error) {
	l, err := m.bag.Take(i)
	if err != nil {
		return nil, err
	}
	said := m.mover.Take(l)
	for _, n := range m.nodes {
		n.Take(l)
	}
	for _, s := range m.sessions {
		said = append(said, s.Take(l, m.now)...)
	}
	return said, nil
}

func (m *model) calm(rounds int) {
	for i := 0; i < rounds && i < 1000; i++ {
		for n := range 3 {
			m.do(sync(n))
		}
		for who, s := range m.sessions {
			for n := 0; n < s.Watches(); n++ {
				if x, _ := s.Get(n); x.Over == 0 {
					m.do(poll(who, n, 8))
				}
			}
		}
		for many := m.bag.Len(); many > 0; many-- {
			m.do(deliver(0))
		}
		m.do(tick())
	}
}

// pair: a world, and the model that it must be like.
type pair struct {
	t *testing.T
	w *world.World
	m *model
}

func newPair(t *testing.T) *pair { return &pair{t, world.New(), newModel()} }

// do: what it tells is alike, and so is what is under way.
func (p *pair) do(a api.Act) {
	p.t.Helper()
	got, want := p.w.Do(a), p.m.do(a)
	if fault.Code(got) != fault.Code(want) {
		p.t.Fatalf("P26.1: %+v: %v, not %v", a, got, want)
	}
	if p.w.Now() != p.m.now || !slices.EqualFunc(p.w.Bag().All(), p.m.bag.All(), letter.Same) {
		p.t.Fatalf("P26.1: %+v: Now %d, not %d; under way: %+v, not %+v", a, p.w.Now(), p.m.now, p.w.Bag().All(), p.m.bag.All())
	}
}

func (p *pair) isAlike(name string) {
	p.t.Helper()
	if got, want := state(p.w), p.m.state(); got != want {
		p.t.Fatalf("P26.1: %s:\n%s\nnot\n%s", name, got, want)
	}
}

// begun: there is something to be done: a request and a move under way, a watch that was told something, one that was cancelled.
func begun() acts {
	l := acts{watch(0, "", ""), watch(1, "b", "n", seen("c", 0)), ask(0, put("c", "one")), ask(1, put("m", "two"))}
	for range 3 {
		l = append(l, poll(0, 0, 3), deliver(0), deliver(0), deliver(0), sync(0), tick())
	}
	return append(l, split("h"), cancel(1, 0), deliver(3), sync(0))
}

// steps: of each Kind some, with numbers that are and that aren't.
func steps() acts {
	return acts{
		ask(0, put("c", "x")), ask(2, get("")), watch(1, "a", "k"), poll(0, 0, 8), poll(1, 0, 8), poll(0, 2, 8), cancel(0, 0),
		deliver(0), deliver(1), deliver(99), lose(0), lose(-1), twice(1), twice(99), tick(), sync(0), sync(3), crash(0, 7), crash(-1, 0), trim(0), trim(3),
		move("c", 1), move("m", 7), split("e"), join("a"), abort(), ask(3, get("c")), watch(-1, "", ""), {Kind: 0}, {Kind: 16},
	}
}

// P26.1: what the document says, in all orders of two steps, from a new world and from one where something goes on; and what comes of them.
func TestOrders(t *testing.T) {
	all := steps()
	tail := acts{tick(), sync(0), deliver(0), poll(0, 0, 2), deliver(0), ask(2, get("m")), deliver(2), tick()}
	for _, first := range []acts{nil, begun()} {
		for _, x := range all {
			for _, y := range all {
				p := newPair(t)
				for _, a := range slices.Concat(first, acts{x, y}, tail) {
					p.do(a)
				}
				p.isAlike(fmt.Sprintf("%+v, %+v", x, y))
			}
		}
	}
}

// anOp: of keys k0 to k7; what it writes is told by the number.
func anOp(dice *rand.Rand, number int) api.Op {
	key := fmt.Sprint("k", dice.Intn(8))
	value := fmt.Sprint("v", number)
	switch dice.Intn(20) {
	case 0, 1, 2:
		return get(key)
	case 3, 4:
		return api.Op{Kind: api.ODel, Key: key}
	case 5, 6:
		return api.Op{Kind: api.OCas, Key: key, Value: value, Version: dice.Intn(5)}
	case 7:
		return api.Op{Kind: api.ORange, Key: "k1", To: "k4"}
	case 8, 9:
		return batch(value, key, key+"k")
	case 10:
		if dice.Intn(4) == 0 {
			return api.Op{Kind: api.OCompact, Key: key, Version: dice.Intn(api.MaxHistory)}
		}
		fallthrough
	default:
		return put(key, value)
	}
}

// anAct: whatever may happen.
func anAct(dice *rand.Rand, w *world.World) api.Act {
	i := dice.Intn(w.Bag().Len() + 1)
	who := dice.Intn(3)
	key := fmt.Sprint("k", dice.Intn(8))
	switch what := dice.Intn(60); {
	case what < 20:
		return deliver(i)
	case what < 24:
		return deliver(0)
	case what < 26:
		return lose(i)
	case what < 29:
		return twice(i)
	case what < 36:
		return sync(who)
	case what < 40:
		return tick()
	case what < 41:
		return crash(who, dice.Intn(w.Node(who).Loose()+1))
	case what < 42:
		return trim(who)
	case what < 43:
		x, _ := w.Session(dice.Intn(3)).Get(dice.Intn(3))
		return api.Act{Kind: api.AWatch, Who: who, Span: x.Span, Seen: x.Seen}
	case what < 44 && dice.Intn(4) == 0:
		return cancel(who, dice.Intn(3))
	case what < 45:
		return []api.Act{move(key, dice.Intn(4)), move(key, dice.Intn(3)), split(key), join(key), abort()}[dice.Intn(5)]
	case what < 52:
		return ask(who, anOp(dice, w.Now()))
	default:
		return poll(who, dice.Intn(3), dice.Intn(12)-1)
	}
}

// P26.1, P26.2: what the document says, in long rows, with Calm now and then.
func TestRows(t *testing.T) {
	for seed := range 20 {
		dice := rand.New(rand.NewSource(int64(seed)))
		p := newPair(t)
		for i := range 1000 {
			if dice.Intn(150) == 0 {
				rounds := dice.Intn(12) - 2
				p.w.Calm(rounds)
				p.m.calm(rounds)
				p.isAlike(fmt.Sprintf("Calm(%d)", rounds))
			}
			p.do(anAct(dice, p.w))
			if i%60 == 0 {
				p.isAlike(fmt.Sprintf("seed %d, step %d", seed, i))
			}
		}
		p.isAlike("the end")
	}
}

// P26.1: it begins as a shard.New of all keys.
func TestFirst(t *testing.T) {
	all := world.New().Node(0).Hold().Shards()
	if len(all) != 1 || !shard.Same(all[0], shard.New(1, 1, sp("", ""))) {
		t.Errorf("P26.1: node 0 has %+v", all)
	}
}
