package session_test

import (
	"fmt"
	"math/rand"
	"slices"
	"testing"

	"estuary/api"
	"estuary/letter"
	"estuary/mover"
	"estuary/node"
	"estuary/session"
	"estuary/shard"
	"estuary/span"
	"estuary/token"
)

// harbour: sessions, nodes that answer and tell them, a mover, and letters under way.
type harbour struct {
	t        *testing.T
	m        *mover.State
	nodes    []*node.Node
	sessions []*session.Session
	sent     letters
	now      int
}

func newHarbour(t *testing.T) *harbour {
	h := &harbour{t: t, m: mover.New()}
	h.nodes = append(h.nodes, node.New(0, []api.Shard{shard.New(1, 1, sp("", ""))}), node.New(1, nil), node.New(2, nil))
	for i := range api.MaxSessions {
		h.sessions = append(h.sessions, session.New(i))
	}
	return h
}

func (h *harbour) send(l ...api.Letter) {
	h.t.Helper()
	for _, x := range l {
		if !letter.Is(x) {
			h.t.Fatalf("P25.1: ill-formed: %+v", x)
		}
	}
	h.sent = append(h.sent, l...)
	if more := len(h.sent) - api.MaxLetters; more > 0 {
		h.sent = h.sent[more:]
	}
}

// come: the i-th letter is handed to all that there are; only who it is to does anything.
func (h *harbour) come(i int) {
	h.t.Helper()
	l := h.sent[i]
	h.sent = slices.Delete(h.sent, i, i+1)
	h.send(h.m.Take(l)...)
	for _, n := range h.nodes {
		n.Take(l)
	}
	for _, s := range h.sessions {
		h.send(s.Take(l, h.now)...)
	}
}

func (h *harbour) tick() {
	h.t.Helper()
	h.send(h.m.Tick()...)
	for _, s := range h.sessions {
		h.send(s.Tick(h.now)...)
	}
}

func (h *harbour) poll(s *session.Session, n, credit int) {
	h.t.Helper()
	said, err := s.Poll(n, credit)
	if x, ok := s.Get(n); (err == nil) != (ok && x.Over == 0) || (err == nil) != (len(said) > 0) {
		h.t.Fatalf("P25.1: Poll of %+v: %+v, %v", x, said, err)
	}
	h.send(said...)
}

func (h *harbour) ask(s *session.Session, dice *rand.Rand) {
	h.t.Helper()
	key := fmt.Sprint("k", dice.Intn(8))
	o := put(key, fmt.Sprint("v", h.now))
	switch dice.Intn(10) {
	case 0, 1:
		o = get(key)
	case 2:
		o = api.Op{Kind: api.ODel, Key: key}
	case 3:
		o = api.Op{Kind: api.OCas, Key: key, Value: "cas", Version: dice.Intn(5)}
	case 4:
		o = api.Op{Kind: api.ORange, Key: "k2", To: "k6"}
	case 5:
		o = batch(key, key+"k")
	}
	was, busy := s.Calls(), s.Busy()
	said, err := s.Ask(o, h.now)
	if (err == nil) == busy || len(s.Calls()) != len(was)+1 && !busy || busy && len(s.Calls()) != len(was) {
		h.t.Fatalf("P25.1: Busy %v, Ask: %v; %d Calls, %d ahead of it", busy, err, len(s.Calls()), len(was))
	}
	h.send(said...)
}

func (h *harbour) watch(s *session.Session, dice *rand.Rand) {
	x, _ := h.sessions[dice.Intn(api.MaxSessions)].Get(dice.Intn(api.MaxWatches))
	span := []api.Span{sp("", ""), sp("k2", "k5"), sp("", "k4")}[dice.Intn(3)]
	s.Watch(span, token.In(x.Seen, span))
}

// moves: the mover does one of what it can; of the first two kinds alone each is done within one round of calm.
func (h *harbour) moves(dice *rand.Rand, kinds int) {
	key := fmt.Sprint("k", dice.Intn(8))
	var said letters
	switch dice.Intn(kinds) {
	case 0:
		said, _ = h.m.Split(key)
	case 1:
		said, _ = h.m.Join(key)
	case 2:
		said, _ = h.m.Abort()
	default:
		said, _ = h.m.Move(key, dice.Intn(api.MaxNodes))
	}
	h.send(said...)
}

// act: what may happen.
func (h *harbour) act(dice *rand.Rand) {
	h.t.Helper()
	h.now++
	i := dice.Intn(len(h.sent) + 1)
	there := i < len(h.sent)
	n := h.nodes[dice.Intn(api.MaxNodes)]
	s := h.sessions[dice.Intn(api.MaxSessions)]
	switch what := dice.Intn(40); {
	case what < 14 && there:
		h.come(i)
	case what < 17 && there:
		h.come(0)
	case what < 18 && there:
		h.sent = slices.Delete(h.sent, i, i+1)
	case what < 20 && there:
		h.send(h.sent[i])
	case what < 25:
		h.send(n.Sync()...)
	case what < 28:
		h.tick()
	case what < 29:
		n.Crash(dice.Intn(n.Loose() + 1))
	case what < 30:
		h.moves(dice, 5)
	case what < 31:
		h.watch(s, dice)
	case what < 36:
		h.ask(s, dice)
	default:
		h.poll(s, dice.Intn(api.MaxWatches), dice.Intn(12)-1)
	}
}

// calm: nothing is lost, and all go on.
func (h *harbour) calm() {
	h.t.Helper()
	h.now++
	for _, n := range h.nodes {
		h.send(n.Sync()...)
	}
	for _, s := range h.sessions {
		for n := range s.Watches() {
			if x, _ := s.Get(n); x.Over == 0 {
				h.poll(s, n, api.MaxCredit)
			}
		}
	}
	for range len(h.sent) {
		h.come(0)
	}
	h.tick()
}

// cells: of all shards, by key the last ones.
func (h *harbour) cells() map[string]api.Cell {
	last := map[string]api.Cell{}
	for _, n := range h.nodes {
		for _, s := range n.Hold().Shards() {
			for _, c := range s.Cells {
				if c.Version >= last[c.Key].Version {
					last[c.Key] = c
				}
			}
		}
	}
	return last
}

// areCalls: P25.2: in order, each with when it was asked and, ahead of the next one's asking, answered or given up. How many of each.
func (h *harbour) areCalls(id int) (answered, given int) {
	h.t.Helper()
	l := h.sessions[id].Calls()
	for i, c := range l {
		ahead := 0
		if i > 0 {
			ahead = l[i-1].Answered
		}
		over := c.Answered > 0
		if c.Session != id || c.ID != i+1 || c.Asked < ahead || over && c.Answered < c.Asked || !over && (i < len(l)-1 || !h.sessions[id].Busy()) {
			h.t.Fatalf("P25.2: session %d: Call %d: %+v", id, i, c)
		}
		switch {
		case c.Answer.Code == 17:
			h.t.Fatalf("P25.2: session %d: moved isn't an answer: %+v", id, c)
		case c.Answer.Code == 21:
			given++
		case over:
			answered++
		}
	}
	return answered, given
}

// inOrder: P25.2: what was answered ahead of another one's asking is ahead of it: of one key its Version isn't less, and more, if the later one changed it.
func (h *harbour) inOrder() {
	h.t.Helper()
	var all calls
	for _, s := range h.sessions {
		for _, c := range s.Calls() {
			one := c.Op.Kind >= api.OGet && c.Op.Kind <= api.OCas
			if code := c.Answer.Code; one && c.Answered > 0 && (code == 0 || code == 14 || code == 15) {
				all = append(all, c)
			}
		}
	}
	for _, a := range all {
		for _, b := range all {
			least := a.Answer.Version
			if b.Op.Kind != api.OGet && b.Answer.Code == 0 {
				least++
			}
			if a.Op.Key == b.Op.Key && a.Answered < b.Asked && b.Answer.Version < least {
				h.t.Fatalf("P25.2: %+v, and then %+v", a, b)
			}
		}
	}
}

// areTold: P25.2: of each watch and key the Versions one by one, up to what its Seen has; and what it was told is what it was asked for.
func (h *harbour) areTold(id int) int {
	h.t.Helper()
	s := h.sessions[id]
	last := map[string]int{}
	many := make([]int, s.Watches())
	for _, x := range s.Told() {
		w, ok := s.Get(x.Watch)
		name := fmt.Sprint(x.Watch, " ", x.Event.Key)
		if was, there := last[name]; x.Session != id || !ok || there && x.Event.Version != was+1 || !span.Has(w.Span, x.Event.Key) {
			h.t.Fatalf("P25.2: session %d: told %+v behind %d", id, x, last[name])
		}
		last[name] = x.Event.Version
		many[x.Watch]++
	}
	for n, tells := range many {
		w, _ := s.Get(n)
		if w.Tells != tells {
			h.t.Fatalf("P25.2: session %d: watch %d was told %d events, noted are %d", id, n, w.Tells, tells)
		}
		for _, y := range w.Seen {
			if v, there := last[fmt.Sprint(n, " ", y.Key)]; there && v != y.Version {
				h.t.Fatalf("P25.2: session %d: watch %d was told up to %d of %+v", id, n, v, y)
			}
		}
	}
	return len(s.Told())
}

// areFacts: P25.2: what is told of one Version is one event, and what changed a key is told as it was asked.
func (h *harbour) areFacts() {
	h.t.Helper()
	facts := map[string]api.Event{}
	fact := func(e api.Event) {
		h.t.Helper()
		name := fmt.Sprint(e.Key, " ", e.Version)
		if was, there := facts[name]; there && was != e {
			h.t.Fatalf("P25.2: two of one Version: %+v, %+v", was, e)
		}
		facts[name] = e
	}
	for _, s := range h.sessions {
		for _, x := range s.Told() {
			fact(x.Event)
		}
		for _, c := range s.Calls() {
			if c.Answered == 0 || c.Answer.Code != 0 {
				continue
			}
			switch v := c.Answer.Version; c.Op.Kind {
			case api.OPut, api.OCas:
				fact(api.Event{Key: c.Op.Key, Version: v, Value: c.Op.Value})
			case api.ODel:
				fact(api.Event{Key: c.Op.Key, Version: v, Del: true})
			case api.OGet:
				fact(api.Event{Key: c.Op.Key, Version: v, Value: c.Answer.Value})
			}
			for _, r := range c.Answer.Rows {
				fact(api.Event{Key: r.Key, Version: r.Version, Value: r.Value})
			}
		}
	}
}

// haveSeenAll: each watch that isn't over has the last Version of each key; of one that is compacted there is a key of which history hasn't the next event. How many go on.
func (h *harbour) haveSeenAll() int {
	h.t.Helper()
	on := 0
	for id, s := range h.sessions {
		for n := range s.Watches() {
			x, _ := s.Get(n)
			behind := 0
			for key, c := range h.cells() {
				v := token.Of(x.Seen, key)
				if !span.Has(x.Span, key) {
					continue
				}
				if x.Over == 0 && v != c.Version {
					h.t.Fatalf("P25.2: session %d: %+v hasn't seen %+v", id, x, c)
				}
				behind = max(behind, c.Floor-v)
			}
			switch {
			case x.Over == 0:
				on++
			case behind <= 0:
				h.t.Fatalf("P25.2: session %d: %+v needn't be over", id, x)
			}
		}
	}
	return on
}

// P25.2: whatever the network does, and whatever is split, joined and moved beneath: what was asked, and what was told, is noted in order, is one story, and comes to an end where all is calm.
func TestEnds(t *testing.T) {
	answered, given, news, on := 0, 0, 0, 0
	for seed := range 60 {
		dice := rand.New(rand.NewSource(int64(seed)))
		h := newHarbour(t)
		for range 1500 {
			h.act(dice)
		}
		for range 150 {
			h.calm()
		}
		for id, s := range h.sessions {
			if s.Busy() {
				t.Fatalf("P25.2: seed %d: session %d is Busy still", seed, id)
			}
			a, g := h.areCalls(id)
			answered, given, news = answered+a, given+g, news+h.areTold(id)
		}
		h.inOrder()
		h.areFacts()
		on += h.haveSeenAll()
	}
	if answered < 1000 || given < 100 || news < 3000 || on < 200 {
		t.Errorf("only %d were answered, %d given up, %d told, %d watches go on: that shows nothing", answered, given, news, on)
	}
}

// P25.1, P25.2: where nothing is lost none is given up while shards are split and joined; if they are moved, only what a frozen shard kept waiting. A watch that goes on sees all.
func TestCalm(t *testing.T) {
	on := 0
	for seed := range 40 {
		dice := rand.New(rand.NewSource(int64(seed)))
		h := newHarbour(t)
		for _, s := range h.sessions {
			s.Watch(sp("", ""), nil)
		}
		kinds := 2 + seed%2*3
		for round := range 150 {
			for _, s := range h.sessions {
				if !s.Busy() {
					h.ask(s, dice)
				}
			}
			if round%5 == 0 && h.m.Job().Phase == api.MIdle {
				h.moves(dice, kinds)
			}
			h.calm()
		}
		for range 60 {
			h.calm()
		}
		on += h.haveSeenAll()
		for id := range h.sessions {
			answered, given := h.areCalls(id)
			if many := h.areTold(id); given != 0 && kinds == 2 || answered < 15 || many < 30 {
				t.Fatalf("P25.2: seed %d: session %d: %d answered, %d given up, %d told", seed, id, answered, given, many)
			}
		}
		h.inOrder()
		h.areFacts()
	}
	if on < 60 {
		t.Errorf("only %d watches go on: that shows nothing", on)
	}
}
