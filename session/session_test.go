package session_test

import (
	"errors"
	"fmt"
	"math"
	"math/rand"
	"slices"
	"testing"

	"estuary/api"
	"estuary/fault"
	"estuary/letter"
	"estuary/session"
)

var odd = []int{math.MinInt, -1000, -3, -2, -1, 3, 4, 5, 100, api.MaxRev, math.MaxInt}

func isSaid(t *testing.T, name string, got letters, want ...api.Letter) {
	t.Helper()
	if !sameLetters(got, want) {
		t.Fatalf("P25.1: %s: said: %+v, not %+v", name, got, want)
	}
	for _, l := range got {
		if !letter.Is(l) {
			t.Fatalf("P25.1: %s: ill-formed: %+v", name, l)
		}
	}
}

func isCalls(t *testing.T, name string, s *session.Session, want ...api.Call) {
	t.Helper()
	if got := s.Calls(); !slices.EqualFunc(got, want, sameCall) {
		t.Fatalf("P25.1: %s: Calls: %+v, not %+v", name, got, want)
	}
}

func isTold(t *testing.T, name string, s *session.Session, want ...api.Told) {
	t.Helper()
	if got := s.Told(); !slices.Equal(got, want) {
		t.Fatalf("P25.1: %s: Told: %+v, not %+v", name, got, want)
	}
}

func isCode(t *testing.T, name string, err error, want api.Errno) {
	t.Helper()
	if fault.Code(err) != want || (want != 0) != errors.Is(err, want) {
		t.Fatalf("P25.1: %s: %v, not %d", name, err, want)
	}
}

// P25.1: a new one has no Call, no watch, knows no plan, and says nothing by itself.
func TestNew(t *testing.T) {
	for id := range api.MaxSessions {
		s := session.New(id)
		isCalls(t, "new", s)
		isTold(t, "new", s)
		if s.Busy() || s.Watches() != 0 {
			t.Errorf("P25.1: Busy %v, Watches %d", s.Busy(), s.Watches())
		}
		for now := range 100 {
			isSaid(t, "Tick", s.Tick(now))
		}
		for _, l := range (letters{answers(id, 0, 0, api.Answer{}), answers(id, 0, 1, api.Answer{}), moved(id, 0, 0), feed(id, 0, 0, 0, 0, 1, ev("a", 1)), feed(id, 0, 0, 0, 2, 1), planned(id, nil), wants(id), {}}) {
			isSaid(t, fmt.Sprintf("Take(%+v)", l), s.Take(l, 1))
		}
		for _, n := range append(odd, 0, 1, 2) {
			said, err := s.Poll(n, 1)
			isSaid(t, "Poll", said)
			isCode(t, "Poll", err, 23)
			isCode(t, "Cancel", s.Cancel(n), 23)
			if x, ok := s.Get(n); ok || !sameWatch(x, api.Watch{}) {
				t.Errorf("P25.1: Get(%d): %+v, %v", n, x, ok)
			}
		}
		isCalls(t, "asked nothing", s)
		isTold(t, "told nothing", s)
		said, err := s.Ask(get("a"), 5)
		isCode(t, "Ask", err, 0)
		isSaid(t, "the first Ask", said, wants(id))
		isCalls(t, "the first Ask", s, api.Call{Session: id, ID: 1, Op: get("a"), Asked: 5})
	}
}

// P25.1, P25.2: a session from its beginning on, each step written out.
func TestOne(t *testing.T) {
	s := session.New(1)
	n, err := s.Watch(sp("b", "x"), seens{seen("e", 3)})
	isCode(t, "Watch", err, 0)
	said, err := s.Poll(n, 5)
	isCode(t, "Poll", err, 0)
	isSaid(t, "nobody is known", said, wants(1))
	said, err = s.Ask(put("e", "v4"), 7)
	isCode(t, "Ask", err, 0)
	isSaid(t, "nobody is known", said, wants(1))
	first := api.Call{Session: 1, ID: 1, Op: put("e", "v4"), Asked: 7}
	isCalls(t, "Ask", s, first)
	isSaid(t, "the plan", s.Take(planned(1, three()), 8), asks(1, 0, 1, put("e", "v4")))
	said, _ = s.Poll(n, 5)
	isSaid(t, "Poll", said, poll(1, 1, 0, 5, 0, "b", "d"), poll(1, 0, 0, 5, 0, "d", "m", seen("e", 3)), poll(1, 2, 0, 5, 0, "m", "x"))
	isSaid(t, "moved", s.Take(moved(1, 0, 1), 9), wants(1))
	isCalls(t, "moved", s, first)
	isSaid(t, "the same plan", s.Take(planned(1, three()), 10), asks(1, 0, 1, put("e", "v4")))
	_, err = s.Ask(get("e"), 11)
	isCode(t, "busy", err, 20)
	isSaid(t, "the answer", s.Take(answers(1, 0, 1, api.Answer{Version: 4}), 12))
	first.Answered, first.Answer = 12, api.Answer{Version: 4}
	isCalls(t, "the answer", s, first)
	isSaid(t, "the answer, twice", s.Take(answers(1, 0, 1, api.Answer{Version: 5}), 13))
	isCalls(t, "the answer, twice", s, first)
	isSaid(t, "a feed", s.Take(feed(1, 0, 0, 0, 0, 0, ev("e", 5), ev("e", 4), ev("f", 1), ev("e", 5)), 14))
	isTold(t, "a feed", s, told(1, 0, ev("e", 4)), told(1, 0, ev("f", 1)), told(1, 0, ev("e", 5)))
	isSaid(t, "a feed of a part", s.Take(feed(1, 2, 0, 0, 0, 1, gone("n", 1)), 15), wants(1))
	isTold(t, "a feed of a part", s, told(1, 0, ev("e", 4)), told(1, 0, ev("f", 1)), told(1, 0, ev("e", 5)), told(1, 0, gone("n", 1)))
	isSaid(t, "not here", s.Take(feed(1, 2, 0, 0, 2, 0, ev("n", 2)), 15), wants(1))
	isSaid(t, "compacted", s.Take(feed(1, 2, 0, 4, 1, 0, ev("n", 2)), 16))
	want := api.Watch{Span: sp("b", "x"), Seen: seens{seen("e", 5), seen("f", 1), seen("n", 1)}, Over: 1, Tells: 4}
	if x, ok := s.Get(0); !ok || !sameWatch(x, want) || s.Watches() != 1 {
		t.Fatalf("P25.1: %+v, %v; %d", x, ok, s.Watches())
	}
	said, err = s.Poll(n, 5)
	isSaid(t, "compacted", said)
	isCode(t, "compacted", err, 24)
	isCode(t, "compacted", s.Cancel(n), 24)
	said, _ = s.Ask(batch("a", "b"), 17)
	isSaid(t, "the second", said, asks(1, 1, 2, batch("a", "b")))
	second := api.Call{Session: 1, ID: 2, Op: batch("a", "b"), Asked: 17}
	for i := range 29 {
		var again letters
		if i%5 == 4 {
			again = letters{asks(1, 1, 2, batch("a", "b")), wants(1)}
		}
		isSaid(t, "Tick", s.Tick(18+i), again...)
		isCalls(t, "Tick", s, first, second)
	}
	isSaid(t, "given up", s.Tick(99))
	second.Answered, second.Answer = 99, api.Answer{Code: 21}
	isCalls(t, "given up", s, first, second)
	if s.Busy() {
		t.Fatal("P25.1: given up, but Busy")
	}
	isSaid(t, "too late", s.Take(answers(1, 1, 2, api.Answer{Version: 2}), 100))
	isCalls(t, "too late", s, first, second)
	isTold(t, "all", s, told(1, 0, ev("e", 4)), told(1, 0, ev("f", 1)), told(1, 0, ev("e", 5)), told(1, 0, gone("n", 1)))
}

// P25.1: what is refused is no Call, and spends no ID; that one is under way is told first.
func TestAsk(t *testing.T) {
	good := []api.Op{get("e"), put("e", "v"), put(longest, "twelve bytes"), {Kind: api.ODel, Key: "e"}, {Kind: api.OCas, Key: "e", Value: "v", Version: 3}, {Kind: api.ORange, Key: "e", To: "f"}, batch("e", "f", "g", "h"), {Kind: api.OCompact, Key: "e", Version: 3}}
	bad := []api.Op{{}, get(""), get(tooLong), {Kind: 8, Key: "e"}, {Kind: -1, Key: "e"}, batch(), batch("f", "e"), batch("a", "b", "c", "d", "e"), {Kind: api.OGet, Key: "e", Value: "v"}, {Kind: api.OCas, Key: "e", Version: -1}}
	for _, o := range good {
		p := known(t, 2, three())
		for _, x := range bad {
			_, err := p.s.Ask(x, 3)
			isCode(t, fmt.Sprintf("Ask(%+v)", x), err, 10)
			isSaid(t, "ill-formed", p.ask(x, 3))
		}
		isCalls(t, "ill-formed", p.s)
		isSaid(t, "good", p.ask(o, 4), asks(2, 0, 1, o))
		want := api.Call{Session: 2, ID: 1, Op: o, Asked: 4}
		for _, x := range append(bad, good...) {
			_, err := p.s.Ask(x, 5)
			isCode(t, fmt.Sprintf("Ask(%+v)", x), err, 20)
			isSaid(t, "busy", p.ask(x, 5))
		}
		isCalls(t, "busy", p.s, want)
		p.take(answers(2, 0, 1, api.Answer{Code: 14}), 6)
		want.Answered, want.Answer = 6, api.Answer{Code: 14}
		p.ask(bad[0], 7)
		isCalls(t, "answered", p.s, want)
		p.ask(get("n"), 8)
		isCalls(t, "the next one", p.s, want, api.Call{Session: 2, ID: 2, Op: get("n"), Asked: 8})
	}
}

// P25.1: watcher's, with asker's plan; LMap where no letter is said, but not of what is refused.
func TestPoll(t *testing.T) {
	begin := func() *pair {
		p := both(t, 0)
		p.watch(sp("", ""), seen("a", 2))
		p.watch(sp("e", "f"))
		p.watch(sp("n", ""), seen("n", 1))
		return p
	}
	cases := []struct {
		plan places
		want [3]letters
	}{
		{nil, [3]letters{{wants(0)}, {wants(0)}, {wants(0)}}},
		{places{at(1, "", "")}, [3]letters{{poll(0, 1, 0, 3, 0, "", "", seen("a", 2))}, {poll(0, 1, 1, 3, 0, "e", "f")}, {poll(0, 1, 2, 3, 0, "n", "", seen("n", 1))}}},
		{three(), [3]letters{{poll(0, 1, 0, 3, 0, "", "d", seen("a", 2)), poll(0, 0, 0, 3, 0, "d", "m"), poll(0, 2, 0, 3, 0, "m", "")}, {poll(0, 0, 1, 3, 0, "e", "f")}, {poll(0, 2, 2, 3, 0, "n", "", seen("n", 1))}}},
		{three()[:2], [3]letters{{poll(0, 1, 0, 3, 0, "", "d", seen("a", 2)), poll(0, 0, 0, 3, 0, "d", "m")}, {poll(0, 0, 1, 3, 0, "e", "f")}, {wants(0)}}},
		{three()[:1], [3]letters{{poll(0, 1, 0, 3, 0, "", "d", seen("a", 2))}, {wants(0)}, {wants(0)}}},
		{places{at(1, "f", "n")}, [3]letters{{poll(0, 1, 0, 3, 0, "f", "n")}, {wants(0)}, {wants(0)}}},
		{places{at(1, "b", "b")}, [3]letters{{wants(0)}, {wants(0)}, {wants(0)}}},
	}
	for i, c := range cases {
		p := begin()
		p.take(planned(0, c.plan), 1)
		for n, want := range c.want {
			isSaid(t, fmt.Sprintf("row %d, watch %d", i, n), p.poll(n, 3), want...)
		}
		for _, n := range odd {
			said, err := p.s.Poll(n, 3)
			isSaid(t, "no such watch", said)
			isCode(t, "no such watch", err, 23)
		}
		p.cancel(0)
		p.take(feed(0, 1, 1, 0, 1, 0), 2)
		for n := range 2 {
			said, err := p.s.Poll(n, 3)
			isSaid(t, "over", said)
			isCode(t, "over", err, 24)
			p.poll(n, 3)
		}
		isSaid(t, "the last one goes on", p.poll(2, 3), c.want[2]...)
	}
	p := known(t, 0, places{at(1, "", "")})
	p.watch(sp("", ""))
	for credit := -2; credit <= api.MaxCredit+2; credit++ {
		isSaid(t, "credit", p.poll(0, credit), poll(0, 1, 0, min(max(credit, 0), 8), 0, "", ""))
	}
	isSaid(t, "no Places are no plan", p.take(planned(0, nil), 3))
	isSaid(t, "no Places are no plan", p.poll(0, 1), poll(0, 1, 0, 1, 0, "", ""))
	p.take(planned(0, places{at(2, "", "")}), 3)
	isSaid(t, "the last plan", p.poll(0, 1), poll(0, 2, 0, 1, 0, "", ""))
}

// P25.1: watcher's errors, and its numbers.
func TestWatch(t *testing.T) {
	p := both(t, 0)
	errs := func(s api.Span, want api.Errno, l ...api.Seen) {
		t.Helper()
		n, err := p.s.Watch(s, l)
		if n != 0 {
			t.Fatalf("P25.1: refused, but %d", n)
		}
		isCode(t, "Watch", err, want)
		p.is("a Watch that is refused")
	}
	bad := func() {
		t.Helper()
		errs(sp("d", "b"), 10)
		errs(sp(tooLong, ""), 10)
		errs(sp("b", ""), 10, seen("a", 1))
		errs(sp("", ""), 10, seen("b", 1), seen("a", 1))
	}
	for i := range api.MaxWatches {
		bad()
		if n := p.watch(sp("", "d"), seen("a", i)); n != i || p.s.Watches() != i+1 {
			t.Fatalf("P25.1: watch %d: %d of %d", i, n, p.s.Watches())
		}
	}
	p.cancel(1)
	bad()
	errs(sp("", ""), 19)
	for _, n := range append(odd, 0, 1, 2) {
		want := map[int]api.Errno{0: 0, 1: 24, 2: 0}
		code, there := want[n]
		if !there {
			code = 23
		}
		if x, ok := p.s.Get(n); ok != there || there && !sameWatch(x, api.Watch{Span: sp("", "d"), Seen: seens{seen("a", n)}, Over: map[int]int{1: 2}[n]}) {
			t.Errorf("P25.1: Get(%d): %+v, %v", n, x, ok)
		}
		isCode(t, fmt.Sprintf("Cancel(%d)", n), p.s.Cancel(n), code)
		if code == 0 {
			isCode(t, "Cancel, twice", p.s.Cancel(n), 24)
		}
	}
	if p.s.Watches() != 3 {
		t.Errorf("P25.1: Watches %d", p.s.Watches())
	}
}

// busy: one that knows the plan, has asked for e, and watches all.
func busy(t *testing.T, id int) *pair {
	p := known(t, id, three())
	p.watch(sp("", ""))
	p.ask(put("e", "v"), 3)
	return p
}

// P25.1: what isn't to this session is nothing, whatever it is.
func TestTo(t *testing.T) {
	for id := range api.MaxSessions {
		for _, to := range append(odd, 0, 1, 2, api.Mover, 199, 200, 201, 202, 203, id) {
			for _, l := range (letters{answers(id, 0, 1, api.Answer{Version: 1}), moved(id, 0, 1), planned(id, three()[1:2]), feed(id, 0, 0, 0, 0, 1, ev("a", 1)), feed(id, 0, 0, 0, 1, 1), feed(id, 0, 0, 0, 2, 0)}) {
				p := busy(t, id)
				l.To = to
				said := p.take(l, 9)
				if to == api.Sessions+id {
					continue
				}
				isSaid(t, fmt.Sprintf("to %d", to), said)
				isCalls(t, "not to it", p.s, api.Call{Session: id, ID: 1, Op: put("e", "v"), Asked: 3})
				isTold(t, "not to it", p.s)
				if x, _ := p.s.Get(0); !p.s.Busy() || !sameWatch(x, api.Watch{}) {
					t.Fatalf("P25.1: to %d: Busy %v, %+v", to, p.s.Busy(), x)
				}
				isSaid(t, "its plan", p.poll(0, 1), poll(id, 1, 0, 1, 0, "", "d"), poll(id, 0, 0, 1, 0, "d", "m"), poll(id, 2, 0, 1, 0, "m", ""))
			}
		}
	}
}

// P25.1: which Kinds are anything, from whom.
func TestKinds(t *testing.T) {
	for kind := -1; kind <= api.LCut+2; kind++ {
		for _, from := range append(odd, 0, 1, 2, api.Mover, api.Sessions) {
			p := busy(t, 0)
			l := feed(0, from, 1, 0, 0, 1, ev("a", 1))
			l.Kind, l.Places, l.Answer = kind, three(), api.Answer{Version: 1}
			p.take(l, 9)
			fromNode := from >= 0 && from < 3
			if answered := p.s.Calls()[0].Answered == 9; answered != (kind == api.LAnswer && fromNode) {
				t.Errorf("P25.1: kind %d from %d: %v", kind, from, answered)
			}
			l.N[0] = 0
			p.take(l, 9)
			if got := len(p.s.Told()) == 1; got != (kind == api.LFeed && fromNode) {
				t.Errorf("P25.1: kind %d from %d: %v", kind, from, got)
			}
		}
	}
}

// P25.1: an Answer is noted as it is, whatever its Code; but ErrMoved ends nothing.
func TestAnswers(t *testing.T) {
	for code := -1; code <= 30; code++ {
		p := busy(t, 1)
		a := api.Answer{Code: code, Value: "v", Version: 8, Rows: rows()}
		said := p.take(answers(1, 2, 1, a), 6)
		want := api.Call{Session: 1, ID: 1, Op: put("e", "v"), Asked: 3, Answered: 6, Answer: a}
		if code == 17 {
			isSaid(t, "moved", said, wants(1))
			want.Answered, want.Answer = 0, api.Answer{}
		} else {
			isSaid(t, "answered", said)
		}
		isCalls(t, fmt.Sprint("Code ", code), p.s, want)
		if p.s.Busy() != (code == 17) {
			t.Errorf("P25.1: Code %d: Busy %v", code, p.s.Busy())
		}
	}
	// of another request: nothing
	for _, id := range append(odd, 0, 2) {
		p := busy(t, 1)
		isSaid(t, "of another request", p.take(answers(1, 0, id, api.Answer{Version: 1}), 6))
		isSaid(t, "of another request", p.take(moved(1, 0, id), 6))
		isCalls(t, "of another request", p.s, api.Call{Session: 1, ID: 1, Op: put("e", "v"), Asked: 3})
	}
}

// P25.1: each Answer is in its own Call, in order, and those ahead of it stay.
func TestManyCalls(t *testing.T) {
	p := known(t, 0, three())
	var want calls
	for i := range 40 {
		o, c := put("e", fmt.Sprint(i)), api.Call{ID: i + 1, Asked: 100 * i}
		c.Op = o
		p.ask(o, 100*i)
		isCalls(t, "asked", p.s, append(want, c)...)
		for j := range i {
			p.take(answers(0, 0, j+1, api.Answer{Version: 99}), 7)
		}
		if c.Answered, c.Answer = 100*i+9, (api.Answer{Version: i, Value: fmt.Sprint("v", i)}); i%4 != 3 {
			p.take(answers(0, 0, i+1, c.Answer), c.Answered)
		} else {
			c.Answer = api.Answer{Code: 21}
			for tick := range 30 {
				p.tick(c.Answered - 29 + tick)
			}
		}
		want = append(want, c)
		isCalls(t, "ended", p.s, want...)
	}
}

// P25.1: of several watches, all that is told is in one order; each with its watch.
func TestTold(t *testing.T) {
	p := both(t, 2)
	p.watch(sp("", ""))
	p.watch(sp("b", "d"), seen("b", 4))
	p.watch(sp("", ""))
	var want tolds
	tells := func(n int, l events, news ...api.Event) {
		t.Helper()
		p.take(feed(2, 1, n, 0, 0, 0, l...), 1)
		for _, e := range news {
			want = append(want, told(2, n, e))
		}
		isTold(t, "a feed", p.s, want...)
	}
	tells(1, events{ev("c", 1), ev("b", 5), ev("a", 1), ev("b", 5)}, ev("c", 1), ev("b", 5))
	tells(0, events{ev("b", 1), ev("a", 1), ev("a", 2)}, ev("b", 1), ev("a", 1), ev("a", 2))
	tells(0, events{ev("b", 1), ev("a", 1), ev("a", 2)})
	tells(2, events{ev("b", 1)}, ev("b", 1))
	tells(1, events{ev("b", 6), gone("c", 2), ev("c", 4)}, ev("b", 6), gone("c", 2))
	tells(3, events{ev("b", 1)})
	tells(-1, events{ev("b", 1)})
	p.cancel(0)
	tells(0, events{ev("b", 2)})
	tells(2, events{ev("b", 2), gone("b", 3)}, ev("b", 2), gone("b", 3))
	p.take(feed(2, 1, 2, 3, 1, 0, ev("b", 4)), 1)
	tells(2, events{ev("b", 4)})
	var long events
	for i := range 500 {
		long = append(long, ev("b", 7+i))
	}
	tells(1, long, long...)
}

// P25.1: where the plan is old: LMap; also of a feed that tells nothing, but not of a watch that is over.
func TestOld(t *testing.T) {
	for what := -1; what <= 3; what++ {
		for part := -1; part <= 2; part++ {
			for tells := range 2 {
				for over := range 2 {
					p := both(t, 0)
					p.watch(sp("", ""))
					if over == 1 {
						p.cancel(0)
					}
					var want letters
					if over == 0 && (what == 2 || part == 1) {
						want = letters{wants(0)}
					}
					isSaid(t, fmt.Sprintf("N[2..4] %d, %d, %d", tells, what, part), p.take(feed(0, 0, 0, tells, what, part, ev("a", 1)), 1), want...)
					if news := len(p.s.Told()); news != 1 && over == 0 && what != 1 && what != 2 || news != 0 && (over == 1 || what == 1 || what == 2) {
						t.Errorf("P25.1: N[3] %d: %d told", what, news)
					}
				}
			}
		}
	}
	// while a request is under way, too; and that one isn't touched
	p := busy(t, 0)
	isSaid(t, "old", p.take(feed(0, 0, 0, 0, 0, 1, ev("a", 1)), 4), wants(0))
	isCalls(t, "old", p.s, api.Call{ID: 1, Op: put("e", "v"), Asked: 3})
}

// P25.1: asker's ticks; one that was given up: its Call has Code ErrGiven, Answered now.
func TestTick(t *testing.T) {
	for _, l := range []places{nil, three()} {
		p := both(t, 0)
		p.take(planned(0, l), 1)
		again := letters{wants(0)}
		if l != nil {
			again = letters{asks(0, 0, 1, get("e")), wants(0)}
		}
		p.ask(get("e"), 2)
		p.take(moved(0, 0, 1), 2)
		for i := 1; i < 30; i++ {
			var want letters
			if i%5 == 0 {
				want = again
			}
			isSaid(t, fmt.Sprint("Tick ", i), p.tick(2), want...)
			if c := p.s.Calls()[0]; !p.s.Busy() || c.Answered != 0 || c.Answer.Code != 0 {
				t.Fatalf("P25.1: Tick %d: %+v", i, c)
			}
		}
		isSaid(t, "given up", p.tick(77))
		want := api.Call{ID: 1, Op: get("e"), Asked: 2, Answered: 77, Answer: api.Answer{Code: 21}}
		isCalls(t, "given up", p.s, want)
		for now := range 70 {
			isSaid(t, "Tick of none", p.tick(now))
		}
		p.take(answers(0, 0, 1, api.Answer{Value: "v", Version: 1}), 78)
		isCalls(t, "too late", p.s, want)
		p.ask(get("f"), 79)
		isCalls(t, "the next one", p.s, want, api.Call{ID: 2, Op: get("f"), Asked: 79})
	}
}

// P25.1: now is noted as it is, also where it is no tick.
func TestNow(t *testing.T) {
	for _, asked := range append(odd, 0, 1) {
		for _, ended := range append(odd, 0, 1) {
			p := known(t, 0, three())
			p.ask(get("e"), asked)
			want := api.Call{ID: 1, Op: get("e"), Asked: asked}
			isCalls(t, "asked", p.s, want)
			p.take(answers(0, 0, 1, api.Answer{Value: "v", Version: 1}), ended)
			want.Answered, want.Answer = ended, api.Answer{Value: "v", Version: 1}
			isCalls(t, "answered", p.s, want)
			p.ask(get("e"), asked)
			for range 30 {
				p.tick(ended)
			}
			isCalls(t, "given up", p.s, want, api.Call{ID: 2, Op: get("e"), Asked: asked, Answered: ended, Answer: api.Answer{Code: 21}})
			if p.s.Busy() {
				t.Fatal("P25.1: over, but Busy")
			}
		}
	}
}

// P25.1: sessions that there aren't: their number is told all the same.
func TestOddSessions(t *testing.T) {
	for _, id := range []int{-1, 3, 4, -200, -100, 1000, math.MinInt + 200, math.MaxInt - 200} {
		p := busy(t, id)
		p.poll(0, 8)
		p.take(feed(id, 0, 0, 0, 0, 1, ev("a", 1)), 4)
		p.take(answers(id, 0, 1, api.Answer{Version: 1}), 5)
		if c, l := p.s.Calls(), p.s.Told(); len(c) != 1 || c[0].Session != id || c[0].Answered != 5 || len(l) != 1 || l[0].Session != id {
			t.Errorf("P25.1: session %d: %+v, %+v", id, c, l)
		}
	}
	for _, id := range []int{math.MinInt, math.MaxInt} {
		s := session.New(id)
		s.Watch(sp("", ""), nil)
		s.Poll(0, 8)
		s.Ask(get("a"), 1)
		s.Take(answers(id, 0, 1, api.Answer{}), 1)
		s.Take(feed(id, 0, 0, 0, 0, 1, ev("a", 1)), 1)
		if c, l := s.Calls(), s.Told(); len(c) != 1 || c[0].Session != id || len(l) != 1 || l[0].Session != id {
			t.Errorf("P25.1: session %d: %+v, %+v", id, c, l)
		}
	}
}

// P25.1: each row of a few calls, in all orders.
func TestAllOrders(t *testing.T) {
	steps := []func(p *pair){
		func(p *pair) { p.ask(put("e", "v"), 1) },
		func(p *pair) { p.ask(get(""), 2) },
		func(p *pair) { p.watch(sp("", "m")) },
		func(p *pair) { p.watch(sp("n", ""), seen("e", 1)) },
		func(p *pair) { p.poll(0, 3) },
		func(p *pair) { p.cancel(0) },
		func(p *pair) { p.take(planned(0, three()[1:]), 3) },
		func(p *pair) { p.take(answers(0, 0, 1, api.Answer{Version: 1}), 4) },
		func(p *pair) { p.take(moved(0, 0, 1), 5) },
		func(p *pair) { p.take(feed(0, 0, 0, 0, 0, 0, ev("c", 1), ev("c", 2), ev("e", 1)), 6) },
		func(p *pair) { p.take(feed(0, 1, 0, 0, 1, 1), 7) },
		func(p *pair) { p.take(feed(1, 1, 0, 0, 0, 1, ev("c", 1)), 8) },
		func(p *pair) {
			for now := range 15 {
				p.tick(9 + now)
			}
		},
	}
	const n = 4
	row := [n]int{}
	for {
		p := both(t, 0)
		for _, i := range row {
			steps[i](p)
		}
		i := 0
		for ; i < n && row[i] == len(steps)-1; i++ {
			row[i] = 0
		}
		if i == n {
			return
		}
		row[i]++
	}
}

// P25.1: long rows of calls by a die.
func TestRows(t *testing.T) {
	dice := rand.New(rand.NewSource(25))
	keys := []string{"a", "b", "e", "m", "z", longest, "", tooLong}
	key := func() string { return keys[dice.Intn(len(keys))] }
	ended, given, news := 0, 0, 0
	for range 300 {
		id := dice.Intn(3)
		p := both(t, id)
		asked := func() int { return len(p.s.Calls()) }
		for now := range 150 {
			n := dice.Intn(5) - 1
			x, _ := p.s.Get(n)
			to := id
			if dice.Intn(8) == 0 {
				to = dice.Intn(3)
			}
			switch what := dice.Intn(22); {
			case what < 3:
				p.ask([]api.Op{get(key()), put(key(), "v"), batch("a", key()), {Kind: api.ORange, Key: "a", To: "z"}}[dice.Intn(4)], now)
			case what < 5:
				p.watch(sp("", []string{"", key()}[dice.Intn(2)]), seens{seen("a", 1), seen("b", 2)}[:dice.Intn(3)]...)
			case what < 8:
				p.poll(n, dice.Intn(12)-1)
			case what < 9 && dice.Intn(9) == 0:
				p.cancel(n)
			case what < 11:
				p.take(planned(to, []places{nil, three(), three()[:1], {at(0, key(), "")}}[dice.Intn(4)]), now)
			case what < 13:
				p.take(answers(to, dice.Intn(4), asked()-dice.Intn(2), api.Answer{Code: []int{0, 14, 17, 17}[dice.Intn(4)], Version: now, Rows: rows()[:dice.Intn(3)]}), now)
			case what < 16:
				for range dice.Intn(9) {
					p.tick(now)
				}
			case what < 17:
				p.take(feed(to, dice.Intn(4), n, x.Tells+dice.Intn(2), 1+dice.Intn(2), dice.Intn(2)), now)
			default:
				var l events
				for range dice.Intn(5) {
					e := ev(key(), 1)
					if i := slices.IndexFunc(x.Seen, func(y api.Seen) bool { return y.Key == e.Key }); i >= 0 {
						e.Version = x.Seen[i].Version + dice.Intn(3)
					}
					l = append(l, e, ev(e.Key, e.Version+1))
				}
				p.take(feed(to, dice.Intn(4), n, x.Tells, 0, dice.Intn(2), l...), now)
			}
		}
		for _, c := range p.s.Calls() {
			switch {
			case c.Answer.Code == 21:
				given++
			case c.Answered > 0:
				ended++
			}
		}
		news += len(p.s.Told())
	}
	if ended < 500 || given < 200 || news < 3000 {
		t.Errorf("only %d were answered, %d given up, %d told: that shows nothing", ended, given, news)
	}
}
