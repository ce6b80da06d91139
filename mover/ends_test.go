package mover_test

import (
	"fmt"
	"math/rand"
	"slices"
	"testing"

	"estuary/api"
	"estuary/letter"
	"estuary/mover"
	"estuary/node"
	"estuary/shard"
)

// shore: a mover, nodes that do what it says, and letters under way.
type shore struct {
	t     *testing.T
	m     *mover.State
	nodes []*node.Node
	sent  letters
	asked int
	last  map[string]int // of each key: the version that was answered
}

func newShore(t *testing.T) *shore {
	s := &shore{t: t, m: mover.New(), last: map[string]int{}}
	s.nodes = append(s.nodes, node.New(0, []api.Shard{shard.New(1, 1, api.Span{})}), node.New(1, nil), node.New(2, nil))
	return s
}

func (s *shore) send(l letters) {
	for _, x := range l {
		if x.From == api.Mover && !letter.Is(x) {
			s.t.Fatalf("P21.1: ill-formed: %+v", x)
		}
	}
	s.sent = append(s.sent, l...)
	if more := len(s.sent) - api.MaxLetters; more > 0 {
		s.sent = s.sent[more:]
	}
}

// come: the i-th letter is taken by whom it is to.
func (s *shore) come(i int) {
	l := s.sent[i]
	s.sent = slices.Delete(s.sent, i, i+1)
	switch {
	case l.To == api.Mover:
		s.send(s.m.Take(l))
	case l.To < api.MaxNodes:
		s.nodes[l.To].Take(l)
	case l.Kind == api.LAnswer && l.Answer.Code == 0:
		key := fmt.Sprint("key", l.N[0]%40)
		s.last[key] = max(s.last[key], l.Answer.Version)
	}
}

// put: asked where the plan says that it is.
func (s *shore) put() {
	s.asked++
	key := fmt.Sprint("key", s.asked%40)
	for _, p := range s.m.Plan() {
		if key >= p.Span.From && (p.Span.To == "" || key < p.Span.To) {
			s.send(letters{{Kind: api.LAsk, From: api.Sessions, To: p.Node, N: [5]int{s.asked}, Op: api.Op{Kind: api.OPut, Key: key, Value: fmt.Sprint("value ", s.asked)}}})
		}
	}
}

// act: what may happen.
func (s *shore) act(dice *rand.Rand) {
	key := fmt.Sprint("key", dice.Intn(40))
	i := dice.Intn(len(s.sent) + 1)
	there := i < len(s.sent)
	n := s.nodes[dice.Intn(api.MaxNodes)]
	switch what := dice.Intn(30); {
	case what < 9 && there:
		s.come(i)
	case what < 11 && there:
		s.sent = slices.Delete(s.sent, i, i+1)
	case what < 13 && there:
		s.send(letters{s.sent[i]})
	case what < 19:
		s.send(n.Sync())
	case what < 22:
		s.send(s.m.Tick())
	case what < 23:
		n.Crash(dice.Intn(n.Loose() + 1))
	case what < 24:
		l, _ := s.m.Abort()
		if dice.Intn(4) == 0 {
			s.send(l)
		} // else it is lost
	case what < 25:
		l, _ := s.m.Move(key, dice.Intn(api.MaxNodes))
		s.send(l)
	case what < 26:
		l, _ := s.m.Split(key)
		s.send(l)
	case what < 27:
		l, _ := s.m.Join(key)
		s.send(l)
	default:
		s.put()
	}
}

// calm: nothing is lost, and all go on.
func (s *shore) calm() {
	for _, n := range s.nodes {
		s.send(n.Sync())
	}
	for range len(s.sent) {
		s.come(0)
	}
	s.send(s.m.Tick())
}

// owners: at no moment has a key two shards that aren't frozen.
func (s *shore) owners() {
	s.t.Helper()
	have := map[string]int{}
	for i, n := range s.nodes {
		for _, x := range n.Hold().Shards() {
			for k := 0; k < 40 && !x.Frozen; k++ {
				key := fmt.Sprint("key", k)
				if key < x.Span.From || x.Span.To != "" && key >= x.Span.To {
					continue
				}
				if other, twice := have[key]; twice {
					s.t.Fatalf("P21.3: %s is at node %d and at node %d", key, other, i)
				}
				have[key] = i
			}
		}
	}
}

// isWhole: without a job each place of the plan is what its node has, nobody has more, and what was answered is there.
func (s *shore) isWhole() {
	s.t.Helper()
	count := 0
	for _, n := range s.nodes {
		count += len(n.Hold().Shards())
	}
	if count != len(s.m.Plan()) {
		s.t.Errorf("P21.3: %d shards of %d places", count, len(s.m.Plan()))
	}
	for _, p := range s.m.Plan() {
		if x, there := s.nodes[p.Node].Hold().Get(p.ID); !there || x.Epoch != p.Epoch || x.Span != p.Span || x.Frozen {
			s.t.Errorf("P21.3: %+v is at its node: %+v", p, x)
		}
	}
	for key, version := range s.last {
		found := 0
		for _, n := range s.nodes {
			x, _ := n.Hold().Find(key)
			for _, c := range x.Cells {
				if c.Key == key {
					found = c.Version
				}
			}
		}
		if found < version {
			s.t.Errorf("P21.3: %s has version %d, and %d was answered", key, found, version)
		}
	}
}

// P21.3: whatever is lost, doubled, late or crashes: when that is over the job ends, and the plan is what there is.
func TestOneJobAndItEnds(t *testing.T) {
	ended, moved := 0, 0
	for seed := range 25 {
		dice := rand.New(rand.NewSource(int64(seed)))
		s := newShore(t)
		for range 30 {
			busy := 0
			for range 120 {
				was := s.m.Job()
				s.act(dice)
				now := s.m.Job()
				if was.Phase != api.MIdle && now.Phase != api.MIdle && was.Shard != now.Shard {
					t.Fatalf("P21.3: a job within a job: %+v, %+v", was, now)
				}
				s.owners()
			}
			for ; s.m.Job().Phase != api.MIdle; busy++ {
				if s.m.Job().Phase == api.MInstall {
					moved++
				}
				if s.calm(); busy > 20*api.MaxRound+3*s.m.Job().Pieces {
					t.Fatalf("P21.3: it doesn't end: %+v", s.m.Job())
				}
				s.owners()
			}
			if s.isWhole(); busy > 0 {
				ended++
			}
			for len(s.sent) > 0 { // late ones change nothing any more
				s.come(0)
				s.owners()
			}
			s.isWhole()
		}
	}
	if ended < 200 || moved < 100 {
		t.Errorf("P21.3: %d jobs ended in a calm, %d moves: too few to tell much", ended, moved)
	}
}

// spoil: all of a list, its spare room too.
func spoil[T any](l []T, by T) {
	l = l[:cap(l)]
	for i := range l {
		l[i] = by
	}
}

func spoilLetters(l letters) {
	for _, x := range l {
		spoil(x.Places, at(-9, -9, -9, "spoilt", "spoilt"))
	}
	spoil(l, api.Letter{Kind: -9})
}

// P21.1, P21.2: whatever is done with what was answered, nothing that is there changes, and no other answer; likewise what was handed in.
func TestMemory(t *testing.T) {
	for name, begin := range starts(t) {
		p := begin()
		first, second := p.m.Plan(), p.m.Plan()
		want := slices.Clone(second)
		spoil(first, at(-9, -9, -9, "spoilt", "spoilt"))
		if !slices.Equal(second, want) {
			t.Errorf("P21.2: %s: another Plan is spoilt: %+v", name, second)
		}
		one, two := p.take(back(api.LMap, api.Sessions)), p.take(back(api.LMap, api.Sessions))
		spoilLetters(one)
		if len(two) != 1 || !slices.Equal(two[0].Places, want) || !slices.Equal(second, want) {
			t.Errorf("P21.2: %s: another LPlan is spoilt: %+v", name, two)
		}
		for p.w.job().Phase != api.MIdle {
			l := p.w.answer(1)
			l.Places = append(places{at(1, 1, 1, "", "")}, at(2, 2, 2, "", ""))[:1]
			l.Seen, l.Events = []api.Seen{{Key: "a", Version: 1}}, []api.Event{{Key: "a", Version: 1}}
			was := slices.Clone(l.Places[:2])
			if p.w.job().Phase == api.MInstall {
				l.N[2] = 0
			}
			spoilLetters(p.take(l))
			if !slices.Equal(l.Places[:2], was) || l.Seen[0].Key != "a" || l.Events[0].Key != "a" {
				t.Errorf("P21.2: %s: what was handed in is changed: %+v", name, l)
			}
			spoil(l.Places, at(-9, -9, -9, "spoilt", "spoilt"))
			for range api.MaxRound {
				spoilLetters(p.tick())
			}
			p.take(back(api.LMap, api.Sessions+1))
		}
		if p.w.l[0].Node == 0 {
			spoilLetters(p.move("a", 1))
			spoilLetters(p.abort())
			p.goOn(1, api.MIdle)
		}
		spoilLetters(p.split("b"))
		p.goOn(1, api.MIdle)
		spoilLetters(p.join("a"))
		p.goOn(1, api.MIdle)
		if !slices.Equal(second, want) {
			t.Errorf("P21.2: %s: an earlier answer is changed: %+v", name, second)
		}
	}
}

// P21.2: what one mover is told no other one knows.
func TestOthers(t *testing.T) {
	p, q := both(t), both(t)
	p.split("m")
	p.goOn(0, api.MIdle)
	p.move("a", 1)
	q.move("a", 2)
	p.goOn(2, api.MPush)
	q.goOn(1, api.MIdle)
	p.goOn(2, api.MIdle)
	q.split("x")
	q.goOn(0, api.MIdle)
	isPlan(t, q.m, at(2, 1, 2, "", "x"), at(3, 1, 2, "x", ""))
}

// P21.1, P21.2: of many pieces, and of many jobs, each call comes back soon.
func TestLong(t *testing.T) {
	most := 200000
	m := mover.New()
	m.Move("a", 1)
	m.Take(back(api.LFrozen, 0, 1, 1, most))
	for i := range most {
		m.Take(with(fmt.Sprint(i), back(api.LPiece, 0, 1, 1, i)))
	}
	for i := range most {
		if i%50000 == 7 {
			for range api.MaxRound - 1 {
				m.Tick()
			}
			isSaid(t, m.Tick(), nil, with(fmt.Sprint(i), to(api.LPush, 1, 1, 2, i)))
		}
		m.Take(back(api.LPushed, 1, 1, 2, i))
	}
	isJob(t, m, api.Job{Phase: api.MInstall, Shard: 1, Epoch: 1, To: 1, Pieces: most})
	m.Take(back(api.LInstalled, 1, 1, 2, 0))
	m.Take(back(api.LDropped, 0, 1, 1))
	for epoch := 2; epoch < 100000; epoch++ {
		m.Move("a", 2)
		m.Abort()
		m.Take(back(api.LThawed, 1, 1, epoch))
	}
	isPlan(t, m, at(1, 100000, 1, "", ""))
	// so many that they never come all
	m.Move("a", 0)
	isSaid(t, m.Take(back(api.LFrozen, 1, 1, 100000, api.MaxRev)), nil, to(api.LPull, 1, 1, 100000, 0))
	isSaid(t, m.Take(back(api.LPiece, 1, 1, 100000, 0)), nil, to(api.LPull, 1, 1, 100000, 1))
	m.Abort()
	m.Take(back(api.LThawed, 1, 1, 100000))
	isPlan(t, m, at(1, 100001, 1, "", ""))
}
