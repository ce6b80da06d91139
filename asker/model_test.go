package asker_test

import (
	"errors"
	"slices"
	"strings"
	"testing"

	"estuary/api"
	"estuary/asker"
	"estuary/fault"
	"estuary/letter"
	"estuary/op"
)

type letters = []api.Letter

type places = []api.Place

var (
	longest = strings.Repeat("k", api.MaxKey)
	tooLong = strings.Repeat("k", api.MaxKey+1)
	large   = strings.Repeat("v", 40)
)

func at(id, epoch, node int, from, to string) api.Place {
	return api.Place{ID: id, Epoch: epoch, Node: node, Span: api.Span{From: from, To: to}}
}

// three: a plan of all nodes: below d node 1, from d on below m node 0, from m on node 2.
func three() places { return places{at(4, 2, 1, "", "d"), at(2, 5, 0, "d", "m"), at(9, 1, 2, "m", "")} }

func get(key string) api.Op { return api.Op{Kind: api.OGet, Key: key} }

func put(key, value string) api.Op { return api.Op{Kind: api.OPut, Key: key, Value: value} }

func batch(keys ...string) api.Op {
	o := api.Op{Kind: api.OBatch}
	for _, k := range keys {
		o.Writes = append(o.Writes, api.Write{Key: k, Value: "v" + k})
	}
	return o
}

// asks: what session s says of its request id.
func asks(s, node, id int, o api.Op) api.Letter {
	return api.Letter{Kind: 1, From: 200 + s, To: node, N: [5]int{id}, Op: o}
}

// wants: a plan.
func wants(s int) api.Letter { return api.Letter{Kind: 5, From: 200 + s, To: 100} }

func planned(s int, l places) api.Letter {
	return api.Letter{Kind: api.LPlan, From: api.Mover, To: api.Sessions + s, Places: l}
}

func answers(s, node, id int, a api.Answer) api.Letter {
	return api.Letter{Kind: api.LAnswer, From: node, To: api.Sessions + s, N: [5]int{id}, Answer: a}
}

func moved(s, node, id int) api.Letter {
	return answers(s, node, id, api.Answer{Code: 17})
}

// model: the document's words once more, in another way than the program's: what is under way has the ticks at which it is said again, and the one at which it is given up.
type model struct {
	s    int
	plan places
	id   int
	way  *under
}

type under struct {
	op    api.Op
	tick  int
	again []int
	given int
}

// who: the node of the first place with the op's key, -1: none.
func (m *model) who(o api.Op) int {
	key := o.Key
	if o.Kind == api.OBatch {
		key = o.Writes[0].Key
	}
	for _, p := range m.plan {
		good := len(p.Span.From) <= 8 && len(p.Span.To) <= 8 && (p.Span.To == "" || p.Span.From < p.Span.To)
		if good && key >= p.Span.From && (p.Span.To == "" || key < p.Span.To) {
			return p.Node
		}
	}
	return -1
}

// says: the LAsk, the LMap, or both.
func (m *model) says(ask, want, other bool) letters {
	var l letters
	node := m.who(m.way.op)
	if ask && node != -1 {
		l = append(l, asks(m.s, node, m.id, m.way.op))
	}
	if want || other && node == -1 {
		l = append(l, wants(m.s))
	}
	return l
}

func (m *model) ask(o api.Op) (letters, api.Errno) {
	if m.way != nil {
		return nil, 20
	}
	if op.Bytes(o) == "" {
		return nil, 10
	}
	m.id++
	m.way = &under{op: o, again: []int{5, 10, 15, 20, 25}, given: 30}
	return m.says(true, false, true), 0
}

func (m *model) take(l api.Letter) (letters, api.Answer, bool) {
	switch l.Kind {
	case 6:
		if len(l.Places) == 0 {
			break
		}
		m.plan = l.Places
		if m.way != nil {
			return m.says(true, false, false), api.Answer{}, false
		}
	case 2:
		fromNode := l.From == 0 || l.From == 1 || l.From == 2
		if m.way == nil || !fromNode || l.N[0] != m.id {
			break
		}
		if l.Answer.Code == 17 {
			return m.says(false, true, false), api.Answer{}, false
		}
		m.way = nil
		return nil, l.Answer, true
	}
	return nil, api.Answer{}, false
}

func (m *model) ticks() (letters, bool) {
	if m.way == nil {
		return nil, false
	}
	m.way.tick++
	if m.way.tick == m.way.given {
		m.way = nil
		return nil, true
	}
	if slices.Contains(m.way.again, m.way.tick) {
		return m.says(true, true, false), false
	}
	return nil, false
}

// pair: an asker and its model; each call is made at both.
type pair struct {
	t *testing.T
	a *asker.Asker
	m *model
}

func both(t *testing.T, session int) *pair {
	return &pair{t, asker.New(session), &model{s: session}}
}

// known: both know this plan.
func known(t *testing.T, session int, l places) *pair {
	p := both(t, session)
	p.take(planned(session, l))
	return p
}

func sameLetters(a, b letters) bool { return slices.EqualFunc(a, b, letter.Same) }

// is: what is told of both is the same.
func (p *pair) is(what string) {
	p.t.Helper()
	if !slices.Equal(p.a.Plan(), p.m.plan) || p.a.ID() != p.m.id || p.a.Busy() != (p.m.way != nil) {
		p.t.Fatalf("P23.1: behind %s: Plan %+v, ID %d, Busy %v; not %+v, %d, %v", what, p.a.Plan(), p.a.ID(), p.a.Busy(), p.m.plan, p.m.id, p.m.way != nil)
	}
}

func (p *pair) ask(o api.Op) letters {
	p.t.Helper()
	got, err := p.a.Ask(o)
	want, code := p.m.ask(o)
	if !sameLetters(got, want) || fault.Code(err) != code || code != 0 && !errors.Is(err, code) {
		p.t.Fatalf("P23.1: Ask(%+v): %+v, %v; not %+v, %d", o, got, err, want, code)
	}
	p.is("Ask")
	return got
}

func (p *pair) take(l api.Letter) (letters, api.Answer, bool) {
	p.t.Helper()
	got, a, over := p.a.Take(l)
	want, b, isOver := p.m.take(l)
	if !sameLetters(got, want) || !op.SameAnswer(a, b) || over != isOver {
		p.t.Fatalf("P23.1: Take(%+v): %+v, %+v, %v; not %+v, %+v, %v", l, got, a, over, want, b, isOver)
	}
	p.is("Take")
	return got, a, over
}

func (p *pair) tick() (letters, bool) {
	p.t.Helper()
	got, given := p.a.Tick()
	want, isGiven := p.m.ticks()
	if !sameLetters(got, want) || given != isGiven {
		p.t.Fatalf("P23.1: Tick: %+v, %v; not %+v, %v", got, given, want, isGiven)
	}
	p.is("Tick")
	return got, given
}
