package watcher_test

import (
	"errors"
	"fmt"
	"slices"
	"strings"
	"testing"

	"estuary/api"
	"estuary/fault"
	"estuary/letter"
	"estuary/watcher"
)

type (
	letters = []api.Letter
	places  = []api.Place
	events  = []api.Event
	seens   = []api.Seen
)

var (
	longest = strings.Repeat("k", api.MaxKey)
	tooLong = strings.Repeat("k", api.MaxKey+1)
)

func sp(from, to string) api.Span { return api.Span{From: from, To: to} }

func at(node int, from, to string) api.Place {
	return api.Place{ID: 7, Epoch: 3, Node: node, Span: sp(from, to)}
}

// three: below d node 1, from d on below m node 0, from m on node 2.
func three() places { return places{at(1, "", "d"), at(0, "d", "m"), at(2, "m", "")} }

func seen(key string, version int) api.Seen { return api.Seen{Key: key, Version: version} }

func ev(key string, version int) api.Event {
	return api.Event{Key: key, Version: version, Value: fmt.Sprint("v", version%1000)}
}

func gone(key string, version int) api.Event {
	return api.Event{Key: key, Version: version, Del: true}
}

// many: keys in order, each of Version v.
func many(n, v int) seens {
	var l seens
	for i := range n {
		l = append(l, seen(fmt.Sprintf("k%03d", i), v))
	}
	return l
}

// feed: of watch n, which was told so many when it was asked for; what: N[3], part: N[4].
func feed(session, node, n, tells, what, part int, l ...api.Event) api.Letter {
	return api.Letter{Kind: api.LFeed, From: node, To: api.Sessions + session, N: [5]int{n, 0, tells, what, part}, Events: l}
}

// poll: what session s says to a node of watch n.
func poll(s, node, n, credit, tells int, from, to string, l ...api.Seen) api.Letter {
	return api.Letter{Kind: 3, From: 200 + s, To: node, N: [5]int{n, credit, tells}, Span: sp(from, to), Seen: l}
}

// model: the document's words once more, in another way than the program's: what was seen is a map, and the Keys are looked through byte by byte.
type model struct {
	s  int
	ws []*watch
}

type watch struct {
	span  api.Span
	seen  map[string]int // a Key that is there has a place, whatever its Version
	over  int
	tells int
}

func goodSpan(s api.Span) bool {
	return len(s.From) <= 8 && len(s.To) <= 8 && (s.To == "" || s.From < s.To)
}

func has(s api.Span, key string) bool {
	good := len(key) >= 1 && len(key) <= 8 && goodSpan(s)
	return good && key >= s.From && (s.To == "" || key < s.To)
}

func (m *model) watch(s api.Span, l seens) (int, api.Errno) {
	if !goodSpan(s) || len(l) > 60 {
		return 0, 10
	}
	x := &watch{span: s, seen: map[string]int{}}
	for i, y := range l {
		if !has(s, y.Key) || y.Version < 0 || y.Version > 1000000000000 || i > 0 && l[i-1].Key >= y.Key {
			return 0, 10
		}
		x.seen[y.Key] = y.Version
	}
	if len(m.ws) == 3 {
		return 0, 19
	}
	m.ws = append(m.ws, x)
	return len(m.ws) - 1, 0
}

func (m *model) refuses(n int) api.Errno {
	switch {
	case n < 0 || n >= len(m.ws):
		return 23
	case m.ws[n].over > 0:
		return 24
	}
	return 0
}

// list: those in s, in order.
func (x *watch) list(s api.Span) seens {
	var l seens
	for k, v := range x.seen {
		if has(s, k) {
			l = append(l, seen(k, v))
		}
	}
	slices.SortFunc(l, func(a, b api.Seen) int { return strings.Compare(a.Key, b.Key) })
	return l
}

func (m *model) poll(n, credit int, plan places) (letters, api.Errno) {
	if code := m.refuses(n); code != 0 {
		return nil, code
	}
	x := m.ws[n]
	if credit < 0 {
		credit = 0
	}
	if credit > 8 {
		credit = 8
	}
	var said letters
	for _, p := range plan {
		both := api.Span{From: p.Span.From, To: p.Span.To}
		if x.span.From > both.From {
			both.From = x.span.From
		}
		if both.To == "" || x.span.To != "" && x.span.To < both.To {
			both.To = x.span.To
		}
		if goodSpan(p.Span) && goodSpan(both) {
			said = append(said, poll(m.s, p.Node, n, credit, x.tells, both.From, both.To, x.list(both)...))
		}
	}
	return said, 0
}

func (m *model) cancel(n int) api.Errno {
	code := m.refuses(n)
	if code == 0 {
		m.ws[n].over = 2
	}
	return code
}

func (m *model) take(l api.Letter) (events, bool) {
	fromNode := l.From == 0 || l.From == 1 || l.From == 2
	if l.Kind != 4 || !fromNode || m.refuses(l.N[0]) != 0 {
		return nil, false
	}
	x := m.ws[l.N[0]]
	if l.N[3] == 2 {
		return nil, true
	}
	if l.N[3] == 1 {
		if l.N[2] == x.tells {
			x.over = 1
		}
		return nil, l.N[4] == 1
	}
	var told events
	for _, e := range l.Events {
		last, known := x.seen[e.Key]
		room := known || len(x.seen) < 60
		if has(x.span, e.Key) && room && last < 1000000000000 && last+1 == e.Version {
			x.seen[e.Key] = e.Version
			x.tells++
			told = append(told, e)
		}
	}
	return told, l.N[4] == 1
}

// pair: a watcher and its model; each call is made at both.
type pair struct {
	t *testing.T
	w *watcher.Watcher
	m *model
}

func both(t *testing.T, session int) *pair {
	return &pair{t, watcher.New(session), &model{s: session}}
}

// watching: with watches of these spans, of which nothing was seen.
func watching(t *testing.T, session int, l ...api.Span) *pair {
	p := both(t, session)
	for _, s := range l {
		p.watch(s)
	}
	return p
}

func sameLetters(a, b letters) bool { return slices.EqualFunc(a, b, letter.Same) }

func sameWatch(a, b api.Watch) bool {
	return a.Span == b.Span && slices.Equal(a.Seen, b.Seen) && a.Over == b.Over && a.Tells == b.Tells
}

// is: what is told of both is the same.
func (p *pair) is(what string) {
	p.t.Helper()
	if p.w.Len() != len(p.m.ws) {
		p.t.Fatalf("P24.1: behind %s: Len %d, not %d", what, p.w.Len(), len(p.m.ws))
	}
	for n := -1; n <= len(p.m.ws); n++ {
		var want api.Watch
		there := n >= 0 && n < len(p.m.ws)
		if there {
			x := p.m.ws[n]
			want = api.Watch{Span: x.span, Seen: x.list(sp("", "")), Over: x.over, Tells: x.tells}
		}
		if got, ok := p.w.Get(n); ok != there || !sameWatch(got, want) {
			p.t.Fatalf("P24.2: behind %s: Get(%d): %+v, %v; not %+v, %v", what, n, got, ok, want, there)
		}
	}
}

func (p *pair) isCode(what string, err error, code api.Errno) {
	p.t.Helper()
	if fault.Code(err) != code || code != 0 && !errors.Is(err, code) {
		p.t.Fatalf("P24.1: %s: %v, not %d", what, err, code)
	}
	p.is(what)
}

func (p *pair) watch(s api.Span, l ...api.Seen) (int, error) {
	p.t.Helper()
	got, err := p.w.Watch(s, l)
	want, code := p.m.watch(s, l)
	if got != want {
		p.t.Fatalf("P24.1: Watch(%q, %v): %d, not %d", s, l, got, want)
	}
	p.isCode(fmt.Sprintf("Watch(%q, %v)", s, l), err, code)
	return got, err
}

func (p *pair) poll(n, credit int, plan places) letters {
	p.t.Helper()
	got, err := p.w.Poll(n, credit, plan)
	want, code := p.m.poll(n, credit, plan)
	if !sameLetters(got, want) {
		p.t.Fatalf("P24.1: Poll(%d, %d, %+v): %+v, not %+v", n, credit, plan, got, want)
	}
	p.isCode(fmt.Sprintf("Poll(%d, %d)", n, credit), err, code)
	return got
}

func (p *pair) cancel(n int) error {
	p.t.Helper()
	err := p.w.Cancel(n)
	p.isCode(fmt.Sprintf("Cancel(%d)", n), err, p.m.cancel(n))
	return err
}

func (p *pair) take(l api.Letter) (events, bool) {
	p.t.Helper()
	got, old := p.w.Take(l)
	want, isOld := p.m.take(l)
	if !slices.Equal(got, want) || old != isOld {
		p.t.Fatalf("P24.2: Take(%+v): %+v, %v; not %+v, %v", l, got, old, want, isOld)
	}
	p.is("Take")
	return got, old
}
