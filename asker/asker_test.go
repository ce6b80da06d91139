package asker_test

import (
	"errors"
	"fmt"
	"math"
	"math/rand"
	"slices"
	"testing"

	"estuary/api"
	"estuary/asker"
	"estuary/fault"
	"estuary/letter"
	"estuary/op"
	"estuary/plan"
)

func isSaid(t *testing.T, name string, got letters, want ...api.Letter) {
	t.Helper()
	if !sameLetters(got, want) {
		t.Fatalf("P23.1: %s: said: %+v, not %+v", name, got, want)
	}
	for _, l := range got {
		if !letter.Is(l) {
			t.Fatalf("P23.1: %s: ill-formed: %+v", name, l)
		}
	}
}

func isAt(t *testing.T, a *asker.Asker, id int, busy bool) {
	t.Helper()
	if a.ID() != id || a.Busy() != busy {
		t.Fatalf("P23.1: ID %d, Busy %v; not %d, %v", a.ID(), a.Busy(), id, busy)
	}
}

// P23.1: a new one knows no plan, has no request, and says nothing by itself.
func TestNew(t *testing.T) {
	for session := range api.MaxSessions {
		a := asker.New(session)
		isAt(t, a, 0, false)
		if a.Plan() != nil {
			t.Errorf("P23.1: a plan at first: %+v", a.Plan())
		}
		for range 100 {
			if l, given := a.Tick(); l != nil || given {
				t.Fatalf("P23.1: Tick of no request: %+v, %v", l, given)
			}
		}
		for _, l := range (letters{answers(session, 0, 0, api.Answer{}), answers(session, 0, 1, api.Answer{}), moved(session, 0, 0), moved(session, 0, 1), planned(session, nil)}) {
			if said, answer, over := a.Take(l); said != nil || over || !op.SameAnswer(answer, api.Answer{}) {
				t.Fatalf("P23.1: Take(%+v) of no request: %+v, %+v, %v", l, said, answer, over)
			}
		}
		isAt(t, a, 0, false)
		said, err := a.Ask(get("a"))
		if err != nil {
			t.Fatal(err)
		}
		isSaid(t, "the first Ask", said, wants(session))
		isAt(t, a, 1, true)
		isAt(t, asker.New(session), 0, false)
	}
}

// P23.1, P23.2: requests from the first one on: what is said of each, and how each one is over.
func TestRequests(t *testing.T) {
	a := asker.New(1)
	said, _ := a.Ask(put("e", "low"))
	isSaid(t, "Ask without a plan", said, wants(1))
	said, _, over := a.Take(planned(1, three()))
	isSaid(t, "the plan", said, asks(1, 0, 1, put("e", "low")))
	if over || !slices.Equal(a.Plan(), three()) {
		t.Fatalf("P23.1: %v, %+v", over, a.Plan())
	}
	isAt(t, a, 1, true)
	told := api.Answer{Value: "low", Version: 7, Rows: []api.Row{{Key: "e", Value: "low", Version: 7}}}
	said, answer, over := a.Take(answers(1, 0, 1, told))
	isSaid(t, "the answer", said)
	if !over || !op.SameAnswer(answer, told) {
		t.Fatalf("P23.2: %+v, %v; not %+v", answer, over, told)
	}
	isAt(t, a, 1, false)
	// the same one once more, and a plan while there is no request
	for _, l := range (letters{answers(1, 0, 1, told), moved(1, 0, 1), planned(1, plan.New())}) {
		said, answer, over = a.Take(l)
		isSaid(t, "behind the answer", said)
		if over || !op.SameAnswer(answer, api.Answer{}) {
			t.Fatalf("P23.1: %+v, %v of what is over", answer, over)
		}
	}
	if !slices.Equal(a.Plan(), plan.New()) {
		t.Fatalf("P23.1: %+v", a.Plan())
	}
	// the plan is old
	said, _ = a.Ask(batch("z", "zz"))
	isSaid(t, "Ask", said, asks(1, 0, 2, batch("z", "zz")))
	said, answer, over = a.Take(moved(1, 0, 2))
	isSaid(t, "ErrMoved", said, wants(1))
	if over || !op.SameAnswer(answer, api.Answer{}) {
		t.Fatalf("P23.1: %+v, %v of ErrMoved", answer, over)
	}
	isAt(t, a, 2, true)
	said, _, _ = a.Take(planned(1, three()))
	isSaid(t, "the new plan", said, asks(1, 2, 2, batch("z", "zz")))
	said, answer, over = a.Take(answers(1, 2, 2, api.Answer{Code: int(api.ErrNone), Version: 3}))
	isSaid(t, "an error", said)
	if !over || !op.SameAnswer(answer, api.Answer{Code: 14, Version: 3}) {
		t.Fatalf("P23.2: %+v, %v of an error", answer, over)
	}
	// nobody answers
	said, _ = a.Ask(get("a"))
	isSaid(t, "Ask", said, asks(1, 1, 3, get("a")))
	for i := 1; i <= 30; i++ {
		said, given := a.Tick()
		switch {
		case i == 30:
			isSaid(t, "the last tick", said)
		case i%5 == 0:
			isSaid(t, fmt.Sprint("tick ", i), said, asks(1, 1, 3, get("a")), wants(1))
		default:
			isSaid(t, fmt.Sprint("tick ", i), said)
		}
		if given != (i == 30) {
			t.Fatalf("P23.2: tick %d: given up: %v", i, given)
		}
		isAt(t, a, 3, i < 30)
	}
	for _, l := range (letters{answers(1, 1, 3, told), moved(1, 1, 3)}) {
		if said, answer, over = a.Take(l); said != nil || over || !op.SameAnswer(answer, api.Answer{}) {
			t.Fatalf("P23.1: of what is given up: %+v, %+v, %v", said, answer, over)
		}
	}
	if said, given := a.Tick(); said != nil || given {
		t.Fatalf("P23.1: Tick behind the end: %+v, %v", said, given)
	}
	said, _ = a.Ask(get("x"))
	isSaid(t, "the next one", said, asks(1, 2, 4, get("x")))
	isAt(t, a, 4, true)
}

// goods: each kind, with the key that says whom to ask.
func goods() map[string]api.Op {
	return map[string]api.Op{
		"a":     get("a"),
		"c\xff": put("c\xff", large),
		"d":     {Kind: api.ODel, Key: "d"},
		longest: {Kind: api.OCas, Key: longest, Value: "v", Version: api.MaxRev},
		"l":     {Kind: api.ORange, Key: "l", To: "z"},
		"lz":    {Kind: api.ORange, Key: "lz"},
		"m":     batch("m"),
		"b":     batch("b", "e", "n", "z"), // not in one shard: the first one's node tells so
		"z":     {Kind: api.OCompact, Key: "z", Version: api.MaxHistory},
		"\x00":  get("\x00"),
	}
}

// P23.1: each kind of op goes to the node of its key, by what plan it knows; of a key that isn't there the mover is asked.
func TestWhom(t *testing.T) {
	holes := three()[1:2]
	for key, o := range goods() {
		node := 1
		if key >= "m" {
			node = 2
		} else if key >= "d" {
			node = 0
		}
		for session := range api.MaxSessions {
			p := known(t, session, three())
			isSaid(t, key, p.ask(o), asks(session, node, 1, o))
			said, _, _ := p.take(planned(session, plan.New()))
			isSaid(t, key, said, asks(session, 0, 1, o))
			said, _, _ = p.take(planned(session, holes))
			want := letters{asks(session, 0, 1, o)}
			if node != 0 {
				want = nil
			}
			isSaid(t, key+", a plan with holes", said, want...)
			for range api.MaxRound {
				said, _ = p.tick()
			}
			isSaid(t, key+", a plan with holes, again", said, append(slices.Clone(want), wants(session))...)
			p = known(t, session, holes)
			if node != 0 {
				want = letters{wants(session)}
			}
			isSaid(t, key+", a plan with holes, at first", p.ask(o), want...)
			isSaid(t, key+", without a plan", both(t, session).ask(o), wants(session))
		}
	}
}

// P23.1: which error is told, and that it changes nothing.
func TestErrors(t *testing.T) {
	bads := []api.Op{{}, {Kind: -1, Key: "a"}, {Kind: api.OCompact + 1, Key: "a"}, get(""), get(tooLong), {Kind: api.OGet, Key: "a", To: "b"}, {Kind: api.OGet, Key: "a", Value: "v"}, {Kind: api.OGet, Key: "a", Version: 1}, {Kind: api.OGet, Key: "a", Writes: batch("a").Writes}, put("a", large+"v"), {Kind: api.ORange, Key: "b", To: "a"}, {Kind: api.ORange, Key: "b", To: "b"}, {Kind: api.ORange, To: "b"}, {Kind: api.OCas, Key: "a", Version: -1}, {Kind: api.OCas, Key: "a", Version: api.MaxRev + 1}, {Kind: api.OCompact, Key: "a", Version: api.MaxHistory + 1}, batch(), batch("b", "a"), batch("a", "a"), batch("a", "b", "c", "d", "e"), {Kind: api.OBatch, Key: "a", Writes: batch("a").Writes}, {Kind: api.OBatch, Writes: []api.Write{{Key: "a", Value: "v", Del: true}}}, {Kind: math.MaxInt, Version: math.MinInt}}
	for _, l := range []places{nil, three()} {
		p := known(t, 2, l)
		for _, o := range bads {
			said, err := p.a.Ask(o)
			if said != nil || !errors.Is(err, api.ErrForm) || fault.Code(err) != 10 {
				t.Errorf("P23.1: Ask(%+v): %+v, %v", o, said, err)
			}
			p.is("an ill-formed one")
		}
		p.ask(put("a", "v"))
		for _, o := range append(bads, get("a"), put("a", "v"), batch("a", "b")) {
			said, err := p.a.Ask(o)
			if said != nil || !errors.Is(err, api.ErrBusy) || fault.Code(err) != 20 {
				t.Errorf("P23.1: Ask(%+v) while one is under way: %+v, %v", o, said, err)
			}
			p.is("one too many")
		}
		// what is under way is the same still, and its ticks go on
		said, _, _ := p.take(planned(2, plan.New()))
		isSaid(t, "behind those", said, asks(2, 0, 1, put("a", "v")))
		for range 4 {
			p.tick()
			p.ask(get("b"))
			p.ask(get(""))
		}
		said, _ = p.tick()
		isSaid(t, "again", said, asks(2, 0, 1, put("a", "v")), wants(2))
		p.take(answers(2, 0, 1, api.Answer{Version: 1}))
		isSaid(t, "the next one", p.ask(get("b")), asks(2, 0, 2, get("b")))
	}
}

// P23.1: an answer is one from a node, of this request; which Code but ErrMoved it has doesn't matter.
func TestAnswers(t *testing.T) {
	begin := func() *pair {
		p := known(t, 0, three())
		for range 2 {
			p.ask(get("a"))
			p.take(answers(0, 1, p.m.id, api.Answer{Code: 14}))
		}
		p.ask(get("e"))
		return p
	}
	for code := -3; code <= 40; code++ {
		for node := range api.MaxNodes {
			p := begin()
			l := answers(0, node, 3, api.Answer{Code: code, Value: "v", Version: 5, Rows: []api.Row{{Key: "k"}}})
			l.N[1] = code // of an answer only the ID counts
			said, answer, over := p.take(l)
			if over != (code != 17) || over && !op.SameAnswer(answer, l.Answer) || len(said) != map[bool]int{true: 1}[code == 17] {
				t.Errorf("P23.1: Code %d: %+v, %+v, %v", code, said, answer, over)
			}
		}
	}
	odd := api.Answer{Code: math.MinInt, Value: large + large, Version: math.MinInt, Rows: make([]api.Row, 99)}
	if _, answer, over := begin().take(answers(0, 2, 3, odd)); !over || !op.SameAnswer(answer, odd) {
		t.Errorf("P23.1: %+v, %v", answer, over)
	}
	addresses := []int{math.MinInt, -100, -1, api.MaxNodes, 4, 99, api.Mover, 101, 199, api.Sessions, 201, 202, 203, math.MaxInt}
	for _, code := range []int{0, 14, 17} {
		for _, from := range addresses {
			if said, _, over := begin().take(answers(0, from, 3, api.Answer{Code: code})); said != nil || over {
				t.Errorf("P23.1: from %d: %+v, %v", from, said, over)
			}
		}
		for _, id := range []int{math.MinInt, -3, -1, 0, 1, 2, 4, 5, api.MaxRev, math.MaxInt} {
			if said, _, over := begin().take(answers(0, 0, id, api.Answer{Code: code})); said != nil || over {
				t.Errorf("P23.1: of request %d: %+v, %v", id, said, over)
			}
		}
		for kind := -1; kind <= api.LCut+2; kind++ {
			l := answers(0, 0, 3, api.Answer{Code: code})
			l.Kind = kind
			if said, _, over := begin().take(l); kind != api.LAnswer && (said != nil || over) {
				t.Errorf("P23.1: of kind %d: %+v, %v", kind, said, over)
			}
			l.Places = plan.New()
			p := begin()
			if p.take(l); (kind == api.LPlan) != slices.Equal(p.a.Plan(), plan.New()) {
				t.Errorf("P23.1: of kind %d with Places: %+v", kind, p.a.Plan())
			}
		}
	}
}

// P23.1: whatever Places come are the plan, also an old one; none of no Places.
func TestPlans(t *testing.T) {
	cross := places{at(7, 2, 1, "k", "p"), at(3, 1, 0, "b", "c"), at(7, 9, 2, "b", "n"), at(5, 0, 4, "k", "b"), at(-1, 8, -1, "x", tooLong)}
	long := slices.Concat(cross, cross, cross)
	p := both(t, 1)
	for i, l := range []places{three(), nil, plan.New(), {}, three()[:1], three(), cross, long, {{}}, nil, plan.New()} {
		p.take(planned(1, l))
		if l != nil && len(l) > 0 && !slices.Equal(p.a.Plan(), l) || len(p.a.Plan()) == 0 {
			t.Errorf("P23.1: plan %d: %+v, not %+v", i, p.a.Plan(), l)
		}
	}
	p.ask(batch("l", "z"))
	for i, c := range []struct {
		l    places
		node int
	}{{three(), 0}, {nil, -1}, {three()[:1], -1}, {plan.New(), 0}, {cross, 1}, {places{}, -1}, {cross[1:], 2}, {cross[3:], -1}, {long, 1}, {places{at(1, 1, 2, "l", "l\x00")}, 2}, {places{at(1, 1, 2, "l\x00", "")}, -1}, {places{at(1, 1, 2, "", "l")}, -1}} {
		said, _, over := p.take(planned(1, c.l))
		if c.node < 0 {
			isSaid(t, fmt.Sprint("plan ", i), said)
		} else {
			isSaid(t, fmt.Sprint("plan ", i), said, asks(1, c.node, 1, batch("l", "z")))
		}
		if over {
			t.Errorf("P23.1: plan %d: it is over", i)
		}
	}
	if !slices.Equal(p.a.Plan(), places{at(1, 1, 2, "", "l")}) {
		t.Errorf("P23.1: %+v", p.a.Plan())
	}
}

// P23.1, P23.2: the ticks are counted since Ask, whatever comes meanwhile; each request has its own ones.
func TestTicks(t *testing.T) {
	for _, l := range []places{nil, three()} {
		for answered := 1; answered <= 30; answered++ {
			p := known(t, 0, l)
			for range 7 {
				p.tick() // of none: not counted
			}
			p.ask(get("a"))
			for range answered - 1 {
				p.tick()
				p.take(moved(0, 1, 1))
				p.take(planned(0, nil))
			}
			if _, _, over := p.take(answers(0, 1, 1, api.Answer{})); !over {
				t.Fatalf("P23.2: not answered behind %d ticks", answered-1)
			}
			for range 3 {
				p.tick()
			}
			p.ask(get("n"))
			for i := 1; i <= 30; i++ {
				said, given := p.tick()
				if given != (i == 30) || (said != nil) != (i < 30 && i%5 == 0) || said != nil && len(said) != 1+min(len(l), 1) {
					t.Fatalf("P23.2: tick %d of the second one: %+v, %v", i, said, given)
				}
			}
			p.tick()
		}
	}
	// a plan that comes says it, but doesn't put off when it is said again
	p := both(t, 2)
	p.ask(get("a"))
	for i := 1; i <= 30; i++ {
		said, given := p.tick()
		if i == 5 {
			isSaid(t, "without a plan", said, wants(2))
		}
		if i == 10 {
			isSaid(t, "with a plan", said, asks(2, 1, 1, get("a")), wants(2))
		}
		if given != (i == 30) {
			t.Fatalf("P23.2: tick %d: %v", i, given)
		}
		if i > 5 && i < 30 {
			said, _, _ = p.take(planned(2, three()))
			isSaid(t, "a plan", said, asks(2, 1, 1, get("a")))
		}
	}
	if said, _, _ := p.take(planned(2, plan.New())); said != nil {
		t.Errorf("P23.1: said of what is given up: %+v", said)
	}
}

// P23.1: each row of a few calls, in all orders.
func TestAllOrders(t *testing.T) {
	calls := []func(p *pair){
		func(p *pair) { p.ask(put("e", "v")) },
		func(p *pair) { p.ask(get(tooLong)) },
		func(p *pair) { p.take(planned(0, three())) },
		func(p *pair) { p.take(planned(0, three()[:1])) },
		func(p *pair) { p.take(planned(0, nil)) },
		func(p *pair) { p.take(moved(0, 0, 1)) },
		func(p *pair) { p.take(answers(0, 0, 1, api.Answer{Version: 1})) },
		func(p *pair) { p.take(answers(0, 2, 2, api.Answer{Code: 14})) },
		func(p *pair) { p.tick() },
		func(p *pair) {
			for range 5 {
				p.tick()
			}
		},
		func(p *pair) {
			for range 27 {
				p.tick()
			}
		},
	}
	const n = 4
	row := [n]int{}
	for {
		p := both(t, 0)
		for _, i := range row {
			calls[i](p)
		}
		i := 0
		for ; i < n && row[i] == len(calls)-1; i++ {
			row[i] = 0
		}
		if i == n {
			return
		}
		row[i]++
	}
}

// P23.1, P23.2: long rows of calls by a die; each request is over behind 30 ticks at most, and once.
func TestRows(t *testing.T) {
	dice := rand.New(rand.NewSource(23))
	keys := []string{"a", "d", "e", "m", "z", longest, "", tooLong}
	key := func() string { return keys[dice.Intn(len(keys))] }
	plans := []places{nil, three(), three()[:2], three()[1:], plan.New(), plan.Split(plan.New(), 1, "e", 2, 3)}
	for range 600 {
		p := both(t, dice.Intn(3))
		asked, over, ticks := 0, 0, 0
		for range 300 {
			switch what := dice.Intn(20); {
			case what < 4:
				o := []api.Op{get(key()), put(key(), "v"), batch(key(), "zz"), {Kind: api.ORange, Key: key()}}[dice.Intn(4)]
				ahead := p.a.ID()
				if p.ask(o); p.a.ID() != ahead {
					asked, ticks = asked+1, 0
				}
			case what < 7:
				p.take(planned(p.m.s, plans[dice.Intn(len(plans))]))
			case what < 8:
				l := answers(p.m.s, dice.Intn(5)-1, p.m.id+dice.Intn(3)-1, api.Answer{Code: []int{0, 14, 17}[dice.Intn(3)], Version: dice.Intn(9)})
				if _, _, end := p.take(l); end {
					over++
				}
			case what < 9:
				p.take(moved(p.m.s, dice.Intn(3), p.m.id))
			default:
				if p.a.Busy() {
					ticks++
				}
				if _, given := p.tick(); given {
					over++
				}
				if p.a.Busy() && ticks >= api.MaxRound*api.MaxTries {
					t.Fatalf("P23.2: under way behind %d ticks", ticks)
				}
			}
			want := asked
			if p.a.Busy() {
				want--
			}
			if over != want {
				t.Fatalf("P23.2: %d of %d are over", over, asked)
			}
		}
	}
}

// P23.1: sessions that there aren't: their number is told all the same.
func TestOddSessions(t *testing.T) {
	for _, s := range []int{-1, 3, 4, -200, 1000, math.MinInt + 200, math.MaxInt - 200} {
		p := known(t, s, three())
		p.ask(get("a"))
		p.take(moved(s, 1, 1))
		for range 31 {
			p.tick()
		}
	}
	for _, s := range []int{math.MinInt, math.MaxInt} {
		a := asker.New(s)
		a.Ask(get("a"))
		a.Take(planned(0, three()))
		a.Tick()
	}
}
