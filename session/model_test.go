package session_test

import (
	"errors"
	"fmt"
	"slices"
	"strings"
	"testing"

	"estuary/api"
	"estuary/asker"
	"estuary/fault"
	"estuary/letter"
	"estuary/op"
	"estuary/session"
	"estuary/watcher"
)

type (
	letters = []api.Letter
	places  = []api.Place
	events  = []api.Event
	seens   = []api.Seen
	calls   = []api.Call
	tolds   = []api.Told
)

var (
	longest = strings.Repeat("k", api.MaxKey)
	tooLong = strings.Repeat("k", api.MaxKey+1)
)

func sp(from, to string) api.Span { return api.Span{From: from, To: to} }

func at(node int, from, to string) api.Place {
	return api.Place{ID: node + 4, Epoch: 3, Node: node, Span: sp(from, to)}
}

// three: below d node 1, from d on below m node 0, from m on node 2.
func three() places { return places{at(1, "", "d"), at(0, "d", "m"), at(2, "m", "")} }

func seen(key string, version int) api.Seen { return api.Seen{Key: key, Version: version} }

func ev(key string, version int) api.Event {
	return api.Event{Key: key, Version: version, Value: fmt.Sprint("v", version%1000)}
}

func gone(key string, version int) api.Event {
	return api.Event{Key: key, Version: version, Del: true}
}

func get(key string) api.Op { return api.Op{Kind: api.OGet, Key: key} }

func put(key, value string) api.Op { return api.Op{Kind: api.OPut, Key: key, Value: value} }

func batch(keys ...string) api.Op {
	o := api.Op{Kind: api.OBatch}
	for _, k := range keys {
		o.Writes = append(o.Writes, api.Write{Key: k, Value: "v" + k})
	}
	return o
}

// asks: what session s says of its request id.
func asks(s, node, id int, o api.Op) api.Letter {
	return api.Letter{Kind: 1, From: 200 + s, To: node, N: [5]int{id}, Op: o}
}

// wants: a plan.
func wants(s int) api.Letter { return api.Letter{Kind: 5, From: 200 + s, To: 100} }

// poll: what session s says to a node of watch n.
func poll(s, node, n, credit, tells int, from, to string, l ...api.Seen) api.Letter {
	return api.Letter{Kind: 3, From: 200 + s, To: node, N: [5]int{n, credit, tells}, Span: sp(from, to), Seen: l}
}

func planned(s int, l places) api.Letter {
	return api.Letter{Kind: api.LPlan, From: api.Mover, To: api.Sessions + s, Places: l}
}

func answers(s, node, id int, a api.Answer) api.Letter {
	return api.Letter{Kind: api.LAnswer, From: node, To: api.Sessions + s, N: [5]int{id}, Answer: a}
}

func moved(s, node, id int) api.Letter { return answers(s, node, id, api.Answer{Code: 17}) }

// feed: of watch n, which was told so many when it was asked for; what: N[3], part: N[4].
func feed(s, node, n, tells, what, part int, l ...api.Event) api.Letter {
	return api.Letter{Kind: api.LFeed, From: node, To: api.Sessions + s, N: [5]int{n, 0, tells, what, part}, Events: l}
}

func told(s, n int, e api.Event) api.Told { return api.Told{Session: s, Watch: n, Event: e} }

// model: the document's words once more: an asker and a watcher of its own, and what is noted: of each Call when and how it was asked, by its ID, and how it ended; of each watch what it was told, with its place among all.
type model struct {
	s     int
	a     *asker.Asker
	w     *watcher.Watcher
	asked map[int]api.Call
	ended map[int]end
	feeds [api.MaxWatches][]placed
	many  int // so many were told
}

type end struct {
	now    int
	answer api.Answer
}

type placed struct {
	place int
	event api.Event
}

func newModel(s int) *model {
	return &model{s: s, a: asker.New(s), w: watcher.New(s), asked: map[int]api.Call{}, ended: map[int]end{}}
}

func (m *model) ask(o api.Op, now int) (letters, error) {
	said, err := m.a.Ask(o)
	if err == nil {
		m.asked[m.a.ID()] = api.Call{Session: m.s, ID: m.a.ID(), Op: o, Asked: now}
	}
	return said, err
}

func (m *model) poll(n, credit int) (letters, error) {
	said, err := m.w.Poll(n, credit, m.a.Plan())
	if err == nil && said == nil {
		said = letters{wants(m.s)}
	}
	return said, err
}

func (m *model) take(l api.Letter, now int) letters {
	if l.To-200 != m.s {
		return nil
	}
	said, answer, over := m.a.Take(l)
	if over {
		m.ended[m.a.ID()] = end{now, answer}
	}
	news, old := m.w.Take(l)
	for _, e := range news {
		m.feeds[l.N[0]] = append(m.feeds[l.N[0]], placed{m.many, e})
		m.many++
	}
	if old {
		said = append(said, wants(m.s))
	}
	return said
}

func (m *model) tick(now int) letters {
	said, given := m.a.Tick()
	if given {
		m.ended[m.a.ID()] = end{now, api.Answer{Code: 21}}
	}
	return said
}

func (m *model) calls() calls {
	var l calls
	for id := 1; id <= len(m.asked); id++ {
		c := m.asked[id]
		c.Answered, c.Answer = m.ended[id].now, m.ended[id].answer
		l = append(l, c)
	}
	return l
}

func (m *model) told() tolds {
	l := make(tolds, m.many)
	for n, feed := range m.feeds {
		for _, x := range feed {
			l[x.place] = told(m.s, n, x.event)
		}
	}
	return l
}

// pair: a session and its model; each call is made at both.
type pair struct {
	t *testing.T
	s *session.Session
	m *model
}

func both(t *testing.T, id int) *pair { return &pair{t, session.New(id), newModel(id)} }

// known: both know this plan.
func known(t *testing.T, id int, l places) *pair {
	p := both(t, id)
	p.take(planned(id, l), 0)
	return p
}

func sameLetters(a, b letters) bool { return slices.EqualFunc(a, b, letter.Same) }

func sameCall(a, b api.Call) bool {
	return a.Session == b.Session && a.ID == b.ID && op.Same(a.Op, b.Op) && a.Asked == b.Asked &&
		a.Answered == b.Answered && op.SameAnswer(a.Answer, b.Answer)
}

func sameWatch(a, b api.Watch) bool {
	return a.Span == b.Span && slices.Equal(a.Seen, b.Seen) && a.Over == b.Over && a.Tells == b.Tells
}

// is: what is told of both is the same.
func (p *pair) is(what string) {
	p.t.Helper()
	if got, want := p.s.Calls(), p.m.calls(); !slices.EqualFunc(got, want, sameCall) {
		p.t.Fatalf("P25.1: behind %s: Calls %+v, not %+v", what, got, want)
	}
	if got, want := p.s.Told(), p.m.told(); !slices.Equal(got, want) {
		p.t.Fatalf("P25.1: behind %s: Told %+v, not %+v", what, got, want)
	}
	if p.s.Busy() != p.m.a.Busy() || p.s.Watches() != p.m.w.Len() {
		p.t.Fatalf("P25.1: behind %s: Busy %v, Watches %d, not %v, %d", what, p.s.Busy(), p.s.Watches(), p.m.a.Busy(), p.m.w.Len())
	}
	for n := -1; n <= p.m.w.Len(); n++ {
		want, there := p.m.w.Get(n)
		if got, ok := p.s.Get(n); ok != there || !sameWatch(got, want) {
			p.t.Fatalf("P25.1: behind %s: Get(%d): %+v, %v; not %+v, %v", what, n, got, ok, want, there)
		}
	}
}

// isSaid: letters and an error, of both.
func (p *pair) isSaid(what string, got letters, err error, want letters, why error) {
	p.t.Helper()
	code := fault.Code(why)
	if !sameLetters(got, want) || fault.Code(err) != code || code != 0 && !errors.Is(err, code) {
		p.t.Fatalf("P25.1: %s: %+v, %v; not %+v, %v", what, got, err, want, why)
	}
	p.is(what)
}

func (p *pair) ask(o api.Op, now int) letters {
	p.t.Helper()
	got, err := p.s.Ask(o, now)
	want, why := p.m.ask(o, now)
	p.isSaid(fmt.Sprintf("Ask(%+v, %d)", o, now), got, err, want, why)
	return got
}

func (p *pair) watch(s api.Span, l ...api.Seen) int {
	p.t.Helper()
	got, err := p.s.Watch(s, l)
	want, why := p.m.w.Watch(s, l)
	if got != want {
		p.t.Fatalf("P25.1: Watch(%q, %v): %d, not %d", s, l, got, want)
	}
	p.isSaid(fmt.Sprintf("Watch(%q, %v)", s, l), nil, err, nil, why)
	return got
}

func (p *pair) poll(n, credit int) letters {
	p.t.Helper()
	got, err := p.s.Poll(n, credit)
	want, why := p.m.poll(n, credit)
	p.isSaid(fmt.Sprintf("Poll(%d, %d)", n, credit), got, err, want, why)
	return got
}

func (p *pair) cancel(n int) {
	p.t.Helper()
	err := p.s.Cancel(n)
	p.isSaid(fmt.Sprintf("Cancel(%d)", n), nil, err, nil, p.m.w.Cancel(n))
}

func (p *pair) take(l api.Letter, now int) letters {
	p.t.Helper()
	got := p.s.Take(l, now)
	p.isSaid(fmt.Sprintf("Take(%+v, %d)", l, now), got, nil, p.m.take(l, now), nil)
	return got
}

func (p *pair) tick(now int) letters {
	p.t.Helper()
	got := p.s.Tick(now)
	p.isSaid(fmt.Sprintf("Tick(%d)", now), got, nil, p.m.tick(now), nil)
	return got
}
