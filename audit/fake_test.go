package audit_test

import (
	"fmt"
	"slices"
	"strings"
	"testing"

	"estuary/api"
	"estuary/audit"
	"estuary/session"
	"estuary/shard"
	"estuary/world"
)

type (
	events = []api.Event
	shards = []api.Shard
)

var all = sp("", "")

func sp(from, to string) api.Span { return api.Span{From: from, To: to} }

func seen(key string, version int) api.Seen { return api.Seen{Key: key, Version: version} }

// ev: key k with Version 2 and Value v, written k2v; of no Value it is a Del, but for k2- that of the empty text.
func ev(text string) api.Event {
	key := strings.TrimRight(strings.TrimRight(text, "abcdefghijklmnopqrstuvwxyz-"), "0123456789")
	e := api.Event{Key: key}
	if n, _ := fmt.Sscanf(text[len(key):], "%d%s", &e.Version, &e.Value); n == 1 {
		e.Del = true
	}
	if e.Value == "-" {
		e.Value = ""
	}
	return e
}

func evs(l ...string) (all events) {
	for _, text := range l {
		all = append(all, ev(text))
	}
	return all
}

func get(key string) api.Op { return api.Op{Kind: api.OGet, Key: key} }

func put(key, value string) api.Op { return api.Op{Kind: api.OPut, Key: key, Value: value} }

func del(key string) api.Op { return api.Op{Kind: api.ODel, Key: key} }

func cas(key, value string, version int) api.Op {
	return api.Op{Kind: api.OCas, Key: key, Value: value, Version: version}
}

func between(from, to string) api.Op { return api.Op{Kind: api.ORange, Key: from, To: to} }

func batch(value string, keys ...string) api.Op {
	o := api.Op{Kind: api.OBatch}
	for _, k := range keys {
		o.Writes = append(o.Writes, api.Write{Key: k, Value: value})
	}
	return o
}

// fake: a world in which what never was may be told.
type fake struct {
	t *testing.T
	*world.World
	number int // of new shards
}

func newFake(t *testing.T) *fake { return &fake{t, world.New(), 100} }

// hold: these are all that the node has.
func (f *fake) hold(node int, l ...api.Shard) {
	f.t.Helper()
	if _, err := f.Node(node).Hold().Do(api.Record{Kind: api.RBase, Shards: l}); err != nil {
		f.t.Fatalf("no shards: %+v: %v", l, err)
	}
}

// add: one more shard, with a number of its own.
func (f *fake) add(node int, s api.Shard) {
	f.t.Helper()
	f.number++
	s.ID = f.number
	f.hold(node, append(f.Node(node).Hold().Shards(), s)...)
}

// waits: a call that isn't answered.
func (f *fake) waits(who int, o api.Op, asked int) {
	f.t.Helper()
	if _, err := f.Session(who).Ask(o, asked); err != nil {
		f.t.Fatalf("no call: %+v: %v", o, err)
	}
}

// call: a call that is answered as one likes, when one likes.
func (f *fake) call(who int, o api.Op, asked, answered int, a api.Answer) {
	f.t.Helper()
	f.waits(who, o, asked)
	l := api.Letter{Kind: api.LAnswer, To: api.Sessions + who, Answer: a}
	calls := f.Session(who).Calls()
	l.N[0] = calls[len(calls)-1].ID
	f.Session(who).Take(l, answered)
	if f.Session(who).Busy() {
		f.t.Fatalf("no answer: %+v", a)
	}
}

// watch: its number.
func (f *fake) watch(who int, s api.Span, l ...api.Seen) int {
	f.t.Helper()
	n, err := f.Session(who).Watch(s, l)
	if err != nil {
		f.t.Fatalf("no watch: %+v, %+v: %v", s, l, err)
	}
	return n
}

// feed: what a node tells a watch of s.
func feed(s *session.Session, who, watch int, l ...api.Event) {
	s.Take(api.Letter{Kind: api.LFeed, To: api.Sessions + who, N: [5]int{watch}, Events: l}, 1)
}

// tell: all of it is told.
func (f *fake) tell(who, watch int, l ...api.Event) {
	f.t.Helper()
	many := len(f.Session(who).Told())
	feed(f.Session(who), who, watch, l...)
	if len(f.Session(who).Told()) != many+len(l) {
		f.t.Fatalf("not told: %+v", l)
	}
}

// holding: a shard with these cells, of which history has nothing.
func holding(l ...api.Event) api.Shard {
	s := shard.New(1, 1, all)
	for _, e := range l {
		s.Cells = append(s.Cells, api.Cell{Key: e.Key, Value: e.Value, Version: e.Version, Del: e.Del, Floor: e.Version})
	}
	return s
}

// telling: a shard with these events of one key.
func telling(l ...api.Event) api.Shard {
	s := holding(l[len(l)-1])
	s.Cells[0].Floor = l[0].Version - 1
	s.Events = l
	return s
}

func frozen(s api.Shard) api.Shard {
	s.Frozen = true
	return s
}

func in(s api.Shard, from, to string) api.Shard {
	s.Span = sp(from, to)
	return s
}

func (f *fake) isFacts(name string, want ...api.Event) {
	f.t.Helper()
	if got, ok := audit.Facts(f.World); !ok || !slices.Equal(got, want) {
		f.t.Errorf("P27.1: %s: %+v, %v, not %+v", name, got, ok, want)
	}
}

func (f *fake) isNoFacts(name string) {
	f.t.Helper()
	if got, ok := audit.Facts(f.World); ok || len(got) != 0 {
		f.t.Errorf("P27.1: %s: %+v, %v", name, got, ok)
	}
	if audit.Linear(f.World) {
		f.t.Errorf("P27.2: %s: Linear, though Facts aren't", name)
	}
}

// state: all of a world that can be looked at, as a text.
func state(w *world.World) string {
	var b strings.Builder
	for i := range api.MaxNodes {
		fmt.Fprintf(&b, "node %d: %+v, loose %d, waits %d\n", i, w.Node(i).Hold().Base(), w.Node(i).Loose(), w.Node(i).Waits())
	}
	fmt.Fprintf(&b, "now %d, mover: %+v, %+v, under way: %+v\n", w.Now(), w.Mover().Plan(), w.Mover().Job(), w.Bag().All())
	for i := range api.MaxSessions {
		s := w.Session(i)
		fmt.Fprintf(&b, "session %d: %v, %+v, %+v\n", i, s.Busy(), s.Calls(), s.Told())
		for n := range s.Watches() {
			x, ok := s.Get(n)
			fmt.Fprintf(&b, "\twatch %+v, %v\n", x, ok)
		}
	}
	return b.String()
}
