package asker_test

import (
	"fmt"
	"math/rand"
	"slices"
	"testing"

	"estuary/api"
	"estuary/asker"
	"estuary/letter"
	"estuary/mover"
	"estuary/node"
	"estuary/shard"
)

// shore: askers, nodes that answer them, a mover, and letters under way.
type shore struct {
	t      *testing.T
	m      *mover.State
	nodes  []*node.Node
	askers []*asker.Asker
	sent   letters
	ops    []api.Op // by session: the last one
	ticks  []int    // likewise: since it was asked
	over   []int    // likewise: how many requests are
	ahead  []int    // likewise: the Version of its key that was answered ahead of it
	last   map[string]int
}

func newShore(t *testing.T) *shore {
	s := &shore{t: t, m: mover.New(), ops: make([]api.Op, 3), ticks: make([]int, 3), over: make([]int, 3), ahead: make([]int, 3), last: map[string]int{}}
	s.nodes = append(s.nodes, node.New(0, []api.Shard{shard.New(1, 1, api.Span{})}), node.New(1, nil), node.New(2, nil))
	for i := range api.MaxSessions {
		s.askers = append(s.askers, asker.New(i))
	}
	return s
}

func (s *shore) send(l letters) {
	for _, x := range l {
		if !letter.Is(x) {
			s.t.Fatalf("P23.1: ill-formed: %+v", x)
		}
	}
	s.sent = append(s.sent, l...)
	if more := len(s.sent) - api.MaxLetters; more > 0 {
		s.sent = s.sent[more:]
	}
}

// isOver: each request once; of one under way none is.
func (s *shore) isOver(i int) {
	s.t.Helper()
	s.over[i]++
	if a := s.askers[i]; a.Busy() || a.ID() != s.over[i] {
		s.t.Fatalf("P23.2: session %d: %d requests, %d are over, Busy %v", i, a.ID(), s.over[i], a.Busy())
	}
}

// answered: with what was answered ahead of its being asked; a put is a Version above that.
func (s *shore) answered(i int, a api.Answer) {
	s.t.Helper()
	s.isOver(i)
	o, least := s.ops[i], s.ahead[i]
	if o.Kind == api.OPut {
		least++
	}
	if none := a.Code == 14 && o.Kind == api.OGet; a.Code != 0 && !none || a.Version < least {
		s.t.Fatalf("P23.2: session %d: %+v of %+v, and Version %d was answered", i, a, o, s.ahead[i])
	}
	s.last[o.Key] = max(s.last[o.Key], a.Version)
}

// come: the i-th letter is taken by whom it is to.
func (s *shore) come(i int) {
	s.t.Helper()
	l := s.sent[i]
	s.sent = slices.Delete(s.sent, i, i+1)
	switch {
	case l.To == api.Mover:
		s.send(s.m.Take(l))
	case l.To < api.MaxNodes:
		s.nodes[l.To].Take(l)
	default:
		said, answer, over := s.askers[l.To-api.Sessions].Take(l)
		s.send(said)
		if over {
			s.answered(l.To-api.Sessions, answer)
		}
	}
}

func (s *shore) tick(i int) bool {
	s.t.Helper()
	if s.askers[i].Busy() {
		s.ticks[i]++
	}
	said, given := s.askers[i].Tick()
	s.send(said)
	if given {
		s.isOver(i)
	}
	if given != (s.ticks[i] == 30) || s.ticks[i] == 30 && s.askers[i].Busy() {
		s.t.Fatalf("P23.2: session %d: behind %d ticks given up: %v", i, s.ticks[i], given)
	}
	if given {
		s.ticks[i] = 0
	}
	return given
}

func (s *shore) ask(i int, o api.Op) {
	s.t.Helper()
	if s.askers[i].Busy() {
		return
	}
	s.ops[i], s.ticks[i], s.ahead[i] = o, 0, s.last[o.Key]
	said, err := s.askers[i].Ask(o)
	if err != nil {
		s.t.Fatalf("P23.1: %v", err)
	}
	s.send(said)
}

// moves: the mover does one of what it can.
func (s *shore) moves(dice *rand.Rand) {
	key := fmt.Sprint("k", dice.Intn(20))
	var said letters
	switch dice.Intn(4) {
	case 0:
		said, _ = s.m.Split(key)
	case 1:
		said, _ = s.m.Join(key)
	default:
		said, _ = s.m.Move(key, dice.Intn(api.MaxNodes))
	}
	s.send(said)
}

func (s *shore) asks(dice *rand.Rand) {
	o := get(fmt.Sprint("k", dice.Intn(20)))
	if dice.Intn(3) > 0 {
		o = put(o.Key, fmt.Sprint("v", dice.Intn(99)))
	}
	s.ask(dice.Intn(api.MaxSessions), o)
}

// act: what may happen.
func (s *shore) act(dice *rand.Rand) {
	i := dice.Intn(len(s.sent) + 1)
	there := i < len(s.sent)
	n := s.nodes[dice.Intn(api.MaxNodes)]
	switch what := dice.Intn(28); {
	case what < 10 && there:
		s.come(i)
	case what < 12 && there:
		s.sent = slices.Delete(s.sent, i, i+1)
	case what < 14 && there:
		s.send(letters{s.sent[i]})
	case what < 19:
		s.send(n.Sync())
	case what < 23:
		s.send(s.m.Tick())
		s.tick(dice.Intn(api.MaxSessions))
	case what < 24:
		n.Crash(dice.Intn(n.Loose() + 1))
	case what < 25:
		s.moves(dice)
	default:
		s.asks(dice)
	}
}

// calm: nothing is lost, and all go on. It tells how many were given up.
func (s *shore) calm() int {
	s.t.Helper()
	for _, n := range s.nodes {
		s.send(n.Sync())
	}
	for range len(s.sent) {
		s.come(0)
	}
	s.send(s.m.Tick())
	given := 0
	for i := range s.askers {
		if s.tick(i) {
			given++
		}
	}
	return given
}

func (s *shore) busy() bool {
	return slices.ContainsFunc(s.askers, (*asker.Asker).Busy)
}

// P23.2: whatever the network does, each request is answered once, or given up at its thirtieth tick.
func TestEnds(t *testing.T) {
	answered := 0
	for seed := range 60 {
		dice := rand.New(rand.NewSource(int64(seed)))
		s := newShore(t)
		for range 1500 {
			s.act(dice)
		}
		for range 30 {
			s.calm()
		}
		if s.busy() {
			t.Fatalf("P23.2: seed %d: one is under way still", seed)
		}
		for i, a := range s.askers {
			if s.over[i] != a.ID() {
				t.Fatalf("P23.2: seed %d: session %d: %d of %d are over", seed, i, s.over[i], a.ID())
			}
			answered += a.ID()
		}
	}
	if answered < 1000 {
		t.Errorf("only %d requests: that shows nothing", answered)
	}
}

// P23.2: where nothing is lost none is given up, while shards split, join and move beneath.
func TestCalm(t *testing.T) {
	moved := 0
	for seed := range 40 {
		dice := rand.New(rand.NewSource(int64(seed)))
		s := newShore(t)
		for range 200 {
			for i := range s.askers {
				if !s.askers[i].Busy() {
					s.ask(i, put(fmt.Sprint("k", dice.Intn(3)), "v"))
				}
			}
			if s.m.Job().Phase == api.MIdle && dice.Intn(9) == 0 {
				s.moves(dice)
				moved++
			}
			if given := s.calm(); given != 0 {
				t.Fatalf("P23.2: seed %d: %d given up in calm: %+v", seed, given, s.m.Job())
			}
		}
		for _, n := range s.over {
			if n < 20 {
				t.Errorf("P23.2: seed %d: only %d are answered", seed, n)
			}
		}
	}
	if moved < 100 {
		t.Errorf("only %d jobs: that shows nothing", moved)
	}
}

// P23.2: a node that has a key no longer says so, and the next plan leads to who has it.
func TestFollows(t *testing.T) {
	s := newShore(t)
	follow := func(version int) {
		t.Helper()
		s.ask(0, put("k1", "v"))
		over := s.over[0]
		for range 9 {
			s.calm()
		}
		if s.over[0] != over+1 || s.nodes[s.m.Plan()[0].Node].Hold().Shards()[0].Cells[0].Version != version {
			t.Fatalf("P23.2: put %d isn't done", version)
		}
	}
	follow(1)
	for version := 2; version < 12; version++ {
		to := (s.m.Plan()[0].Node + 1) % api.MaxNodes
		said, err := s.m.Move("k1", to)
		if err != nil {
			t.Fatal(err)
		}
		s.send(said)
		for s.m.Job().Phase != api.MIdle {
			s.calm()
		}
		if known := s.askers[0].Plan(); len(known) != 1 || known[0].Node == to {
			t.Fatalf("P23.2: it is to know the old plan: %+v", known)
		}
		follow(version)
	}
}
