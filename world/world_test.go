package world_test

import (
	"errors"
	"fmt"
	"math"
	"slices"
	"testing"

	"estuary/api"
	"estuary/fault"
	"estuary/letter"
	"estuary/world"
)

var odd = []int{math.MinInt, -1000, -3, -2, -1, 3, 4, 5, 100, 200, api.MaxRev, math.MaxInt}

// does: of each act what it is told.
func does(t *testing.T, w *world.World, want api.Errno, l ...api.Act) {
	t.Helper()
	for _, a := range l {
		err := w.Do(a)
		if fault.Code(err) != want || (want != 0) != errors.Is(err, want) || (want == 0) != (err == nil) {
			t.Fatalf("P26.1: %+v: %v, not %d", a, err, want)
		}
	}
}

// isUnder: what is under way.
func isUnder(t *testing.T, name string, w *world.World, want ...api.Letter) {
	t.Helper()
	if got := w.Bag().All(); !slices.EqualFunc(got, want, letter.Same) {
		t.Fatalf("P26.1: %s: under way: %+v, not %+v", name, got, want)
	}
}

func isCalls(t *testing.T, name string, w *world.World, who int, want ...api.Call) {
	t.Helper()
	if got, want := fmt.Sprintf("%+v", w.Session(who).Calls()), fmt.Sprintf("%+v", want); got != want {
		t.Fatalf("P26.1: %s: Calls: %s, not %s", name, got, want)
	}
}

func numbers(l ...int) (n [5]int) {
	copy(n[:], l)
	return n
}

// lt: a letter with numbers.
func lt(kind, from, to int, n ...int) api.Letter {
	return api.Letter{Kind: kind, From: from, To: to, N: numbers(n...)}
}

func wants(s int) api.Letter { return lt(api.LMap, 200+s, 100) }

func asks(s, node, id int, o api.Op) api.Letter {
	l := lt(api.LAsk, 200+s, node, id)
	l.Op = o
	return l
}

func answers(s, node, id int, a api.Answer) api.Letter {
	l := lt(api.LAnswer, node, 200+s, id)
	l.Answer = a
	return l
}

func polls(s, node, n, credit, tells int, from, to string, l ...api.Seen) api.Letter {
	x := lt(api.LPoll, 200+s, node, n, credit, tells)
	x.Span, x.Seen = sp(from, to), l
	return x
}

func plans(s int, l ...api.Place) api.Letter {
	x := lt(api.LPlan, 100, 200+s)
	x.Places = l
	return x
}

// one: the first plan.
func one() api.Place { return api.Place{ID: 1, Epoch: 1} }

// known: session s knows the first plan, and nothing is under way.
func known(t *testing.T, w *world.World, s int) {
	t.Helper()
	does(t, w, 0, ask(s, get("a")), deliver(0), deliver(0), lose(0))
	for range api.MaxRound * api.MaxTries {
		does(t, w, 0, tick())
	}
	for w.Bag().Len() > 0 {
		does(t, w, 0, lose(0))
	}
}

// P26.1: a new one.
func TestNew(t *testing.T) {
	w := world.New()
	isUnder(t, "new", w)
	if w.Now() != 0 {
		t.Errorf("P26.1: Now %d", w.Now())
	}
	for i := range api.MaxNodes {
		n := w.Node(i)
		var want []api.Shard
		if i == 0 {
			want = []api.Shard{{ID: 1, Epoch: 1}}
		}
		if got := n.Hold().Shards(); fmt.Sprint(got) != fmt.Sprint(want) || n.Loose() != 0 || n.Waits() != 0 {
			t.Errorf("P26.1: node %d: %+v, loose %d, waits %d", i, got, n.Loose(), n.Waits())
		}
	}
	if got := w.Mover().Plan(); len(got) != 1 || got[0] != one() || w.Mover().Job() != (api.Job{}) {
		t.Errorf("P26.1: the mover: %+v, %+v", got, w.Mover().Job())
	}
	for i := range api.MaxSessions {
		s := w.Session(i)
		if s.Busy() || s.Watches() != 0 || len(s.Calls()) != 0 || len(s.Told()) != 0 {
			t.Errorf("P26.1: session %d isn't new", i)
		}
	}
	if state(world.New()) != state(w) {
		t.Error("P26.1: another one")
	}
}

// P26.1: each has its own number, and is itself whenever it is asked for; there are no others.
func TestParts(t *testing.T) {
	w := world.New()
	p, again := partsOf(w), partsOf(w)
	if !slices.Equal(p.nodes, again.nodes) || !slices.Equal(p.sessions, again.sessions) || p.mover != again.mover || p.bag != again.bag {
		t.Error("P26.1: another one")
	}
	for i := range api.MaxSessions {
		does(t, w, 0, ask(i, get("a")))
	}
	isUnder(t, "asked", w, wants(0), wants(1), wants(2))
	for i := range api.MaxNodes {
		n := w.Node(i)
		n.Take(asks(0, i, 1, get("a")))
		if l := n.Sync(); len(l) != 1 || l[0].From != i {
			t.Errorf("P26.1: node %d says %+v", i, l)
		}
	}
	for _, i := range odd {
		if w.Node(i) != nil || w.Session(i) != nil {
			t.Errorf("P26.1: there is a node or session %d", i)
		}
	}
	if v := world.New(); v.Bag() == w.Bag() || v.Mover() == w.Mover() || v.Node(0) == w.Node(0) || v.Session(0) == w.Session(0) {
		t.Error("P26.1: two worlds share a part")
	}
}

// P26.1: of no such Kind ErrForm, whatever else is wrong.
func TestNoKind(t *testing.T) {
	w := world.New()
	does(t, w, 0, ask(0, get("a")))
	was := partsOf(w)
	was.now = 0
	text := was.state()
	for _, kind := range []int{math.MinInt, -2, -1, 0, api.AAbort + 1, api.AAbort + 2, 100, 257, math.MaxInt} {
		for _, who := range append(odd, 0, 1) {
			does(t, w, api.ErrForm, api.Act{Kind: kind, Who: who, Op: get("a"), Key: "a"})
			if got := was.state(); got != text {
				t.Fatalf("P26.1: Kind %d: it is changed: %s", kind, got)
			}
		}
	}
}

// P26.1: of no such node or session ErrPlace, ahead of what it would refuse itself; the others ask nobody who it is.
func TestNoPlace(t *testing.T) {
	for kind := api.AAsk; kind <= api.AAbort; kind++ {
		for _, who := range odd {
			w := world.New()
			does(t, w, 0, watch(0, "", ""), ask(0, put("a", "b")), ask(1, get("a")))
			was := partsOf(w)
			text := was.state()
			err := w.Do(api.Act{Kind: kind, Who: who, Key: "a"})
			wrong := kind <= api.ACancel || kind >= api.ASync && kind <= api.ATrim || kind == api.AMove
			if (fault.Code(err) == api.ErrPlace) != wrong {
				t.Errorf("P26.1: Kind %d of %d: %v", kind, who, err)
			}
			if wrong && was.state() != text {
				t.Errorf("P26.1: Kind %d of %d: it is changed:\n%s\nfrom\n%s", kind, who, was.state(), text)
			}
		}
	}
}

// P26.1: what each part refuses is told by its number, and nothing but Now is changed.
func TestErrors(t *testing.T) {
	busy := acts{ask(0, get("a"))}
	moving := acts{move("a", 1)}
	for _, c := range []struct {
		name  string
		first acts
		act   api.Act
		want  api.Errno
	}{
		{"an op without a Key", nil, ask(0, get("")), api.ErrForm},
		{"a Key that is too long", nil, ask(0, get(tooLong)), api.ErrForm},
		{"two at once", busy, ask(0, get("a")), api.ErrBusy},
		{"busy ahead of ill-formed", busy, ask(0, get("")), api.ErrBusy},
		{"another one isn't busy", busy, ask(1, get("a")), api.OK},
		{"a span that is none", nil, watch(0, "b", "a"), api.ErrForm},
		{"a token that is none", nil, watch(0, "", "", seen("b", 1), seen("a", 1)), api.ErrForm},
		{"a Key that isn't in the span", nil, watch(0, "b", "", seen("a", 1)), api.ErrForm},
		{"three watches", acts{watch(0, "", ""), watch(0, "", "")}, watch(0, "", ""), api.OK},
		{"four watches", acts{watch(0, "", ""), watch(0, "", ""), watch(0, "", "")}, watch(0, "", ""), api.ErrFull},
		{"four, of which one is over", acts{watch(0, "", ""), watch(0, "", ""), watch(0, "", ""), cancel(0, 1)}, watch(0, "", ""), api.ErrFull},
		{"another one's watches", acts{watch(0, "", ""), watch(0, "", ""), watch(0, "", "")}, watch(1, "", ""), api.OK},
		{"no such watch to poll", acts{watch(0, "", "")}, poll(0, 1, 1), api.ErrPlace},
		{"another one's watch to poll", acts{watch(0, "", "")}, poll(1, 0, 1), api.ErrPlace},
		{"a poll of what is over", acts{watch(0, "", ""), cancel(0, 0)}, poll(0, 0, 1), api.ErrCompact},
		{"no such watch to cancel", acts{watch(0, "", "")}, cancel(0, -1), api.ErrPlace},
		{"a cancel of what is over", acts{watch(0, "", ""), cancel(0, 0)}, cancel(0, 0), api.ErrCompact},
		{"nothing to deliver", nil, deliver(0), api.ErrNone},
		{"behind the last one", busy, deliver(1), api.ErrNone},
		{"ahead of the first one", busy, deliver(-1), api.ErrNone},
		{"nothing to lose", nil, lose(0), api.ErrNone},
		{"none to lose behind the last one", busy, lose(1), api.ErrNone},
		{"nothing to double", nil, twice(0), api.ErrNone},
		{"none to double behind the last one", busy, twice(1), api.ErrNone},
		{"where it is already", nil, move("a", 0), api.ErrNone},
		{"no key", nil, move("", 1), api.ErrNone},
		{"no such node", nil, move("a", 3), api.ErrPlace},
		{"no such node, and no key", nil, move("", -1), api.ErrPlace},
		{"two moves at once", moving, move("a", 2), api.ErrBusy},
		{"busy ahead of no such node", moving, move("a", 3), api.ErrBusy},
		{"a split of no key", nil, split(""), api.ErrNone},
		{"a split while it moves", moving, split("m"), api.ErrBusy},
		{"none above it", nil, join("a"), api.ErrNone},
		{"a join while it moves", moving, join("a"), api.ErrBusy},
		{"nothing to abort", nil, abort(), api.ErrNone},
		{"an abort of a split", acts{split("m")}, abort(), api.ErrBusy},
		{"an abort of an abort", append(moving, abort()), abort(), api.ErrBusy},
		{"a split at its From", acts{split("m"), deliver(0), sync(0), deliver(0)}, split("m"), api.ErrOrder},
		{"a join of two nodes", acts{split("m"), deliver(0), sync(0), deliver(0), move("m", 1), deliver(0), sync(0), deliver(0), deliver(0), sync(0), deliver(0), deliver(0), sync(1), deliver(0), deliver(0), sync(1), deliver(0), deliver(0), sync(0), deliver(0)}, join("a"), api.ErrOrder},
	} {
		w := world.New()
		does(t, w, 0, c.first...)
		was := partsOf(w)
		text := was.state()
		err := w.Do(c.act)
		if fault.Code(err) != c.want || (c.want != 0) != errors.Is(err, c.want) {
			t.Errorf("P26.1: %s: %v, not %d", c.name, err, c.want)
		}
		if c.want != 0 && was.state() != text {
			t.Errorf("P26.1: %s: it is changed:\n%s\nfrom\n%s", c.name, was.state(), text)
		}
	}
}

// P26.1: a split of a plan that is full, and a log that is, are refused too.
func TestFullParts(t *testing.T) {
	w := world.New()
	for i := range api.MaxShards - 1 {
		does(t, w, 0, split(fmt.Sprint("k", i)), deliver(0), sync(0), deliver(0))
	}
	does(t, w, api.ErrFull, split("x"))
	w = world.New()
	big := make([]api.Cell, 0, 8000)
	for i := range cap(big) {
		big = append(big, api.Cell{Key: fmt.Sprintf("k%07d", i), Value: "twelve bytes", Version: 1, Floor: 1})
	}
	if _, err := w.Node(1).Hold().Do(api.Record{Kind: api.RBase, Shards: []api.Shard{{ID: 9, Epoch: 1, Cells: big}}}); err != nil {
		t.Fatal(err)
	}
	was := partsOf(w)
	text := was.state()
	does(t, w, api.ErrFull, trim(1))
	if was.state() != text {
		t.Error("P26.1: a Trim that was refused changed it")
	}
	does(t, w, 0, trim(0), trim(2))
}

// P26.1: one more with each Do, whatever it tells, and with nothing else.
func TestNow(t *testing.T) {
	w := world.New()
	for i, a := range slices.Concat(begun(), steps(), steps()) {
		w.Do(a)
		state(w)
		if w.Now() != i+1 {
			t.Fatalf("P26.1: %+v: Now %d, not %d", a, w.Now(), i+1)
		}
	}
}

// P26.1: when a Call was asked, answered and given up: at the Now of that act, which is there as the act begins.
func TestAtNow(t *testing.T) {
	w := world.New()
	does(t, w, 0, ask(1, get("a")))
	isCalls(t, "the very first act", w, 1, api.Call{Session: 1, ID: 1, Op: get("a"), Asked: 1})
	does(t, w, 0, deliver(0), deliver(0), deliver(0))
	does(t, w, api.ErrNone, lose(0))
	does(t, w, 0, sync(0))
	isCalls(t, "it is under way", w, 1, api.Call{Session: 1, ID: 1, Op: get("a"), Asked: 1})
	does(t, w, 0, deliver(0))
	first := api.Call{Session: 1, ID: 1, Op: get("a"), Asked: 1, Answered: 7, Answer: api.Answer{Code: 14}}
	isCalls(t, "answered", w, 1, first)
	does(t, w, 0, tick(), ask(1, put("a", "b")))
	second := api.Call{Session: 1, ID: 2, Op: put("a", "b"), Asked: 9}
	isCalls(t, "asked", w, 1, first, second)
	for range api.MaxRound * api.MaxTries {
		isCalls(t, "not yet", w, 1, first, second)
		does(t, w, 0, tick())
	}
	second.Answered, second.Answer.Code = 39, 21
	isCalls(t, "given up", w, 1, first, second)
	if w.Now() != 39 {
		t.Errorf("P26.1: Now %d", w.Now())
	}
}

// P26.1: a request, a watch and a move from their beginning on, each letter written out.
func TestOne(t *testing.T) {
	w := world.New()
	does(t, w, 0, watch(2, "b", "", seen("c", 0)))
	isUnder(t, "a watch says nothing", w)
	does(t, w, 0, poll(2, 0, 20), ask(0, put("c", "x")))
	isUnder(t, "nobody is known", w, wants(2), wants(0))
	does(t, w, 0, deliver(0))
	isUnder(t, "what is said is behind all", w, wants(0), plans(2, one()))
	does(t, w, 0, deliver(0), deliver(0))
	isUnder(t, "a plan that isn't wanted any more", w, plans(0, one()))
	does(t, w, 0, deliver(0), poll(2, 0, 20))
	isUnder(t, "the plan is known", w, asks(0, 0, 1, put("c", "x")), polls(2, 0, 0, 8, 0, "b", "", seen("c", 0)))
	does(t, w, 0, deliver(0), deliver(0))
	isUnder(t, "a node says nothing by itself", w)
	if n := w.Node(0); n.Waits() != 2 || n.Loose() == 0 {
		t.Fatalf("P26.1: %d wait, %d are loose", n.Waits(), n.Loose())
	}
	does(t, w, 0, sync(1), sync(2))
	isUnder(t, "others sync", w)
	does(t, w, 0, sync(0))
	feed := lt(api.LFeed, 0, 202)
	feed.Span, feed.Events = sp("b", ""), []api.Event{{Key: "c", Version: 1, Value: "x"}}
	isUnder(t, "in order", w, answers(0, 0, 1, api.Answer{Version: 1}), feed)
	does(t, w, 0, deliver(1), deliver(0))
	isUnder(t, "both came", w)
	if got := w.Session(2).Told(); len(got) != 1 || got[0] != (api.Told{Session: 2, Event: feed.Events[0]}) {
		t.Fatalf("P26.1: told %+v", got)
	}
	isCalls(t, "both came", w, 0, api.Call{ID: 1, Op: put("c", "x"), Asked: 3, Answered: w.Now(), Answer: api.Answer{Version: 1}})
	does(t, w, 0, move("c", 2))
	isUnder(t, "a move", w, lt(api.LFreeze, 100, 0, 1, 1))
	does(t, w, 0, deliver(0), sync(0))
	isUnder(t, "frozen", w, lt(api.LFrozen, 0, 100, 1, 1, 1))
	does(t, w, 0, deliver(0), abort())
	isUnder(t, "an abort", w, lt(api.LPull, 100, 0, 1, 1), lt(api.LThaw, 100, 0, 1, 1))
	does(t, w, 0, deliver(1), sync(0), deliver(1))
	if got := w.Mover().Plan(); got[0] != (api.Place{ID: 1, Epoch: 2}) || w.Mover().Job().Phase != api.MIdle {
		t.Fatalf("P26.1: %+v, %+v", got, w.Mover().Job())
	}
	does(t, w, 0, lose(0), split("m"))
	cut := lt(api.LSplit, 100, 0, 1, 2, 2, 3)
	cut.Span.From = "m"
	isUnder(t, "a split", w, cut)
	does(t, w, 0, deliver(0), sync(0), deliver(0), join("a"))
	isUnder(t, "a join", w, lt(api.LJoin, 100, 0, 2, 1, 3, 1, 4))
	does(t, w, 0, twice(0), lose(0), deliver(0), sync(0), deliver(0), cancel(2, 0))
	if got := w.Mover().Plan(); len(got) != 1 || got[0] != (api.Place{ID: 4, Epoch: 1}) {
		t.Fatalf("P26.1: %+v", got)
	}
	if x, ok := w.Session(2).Get(0); !ok || x.Over != 2 || x.Tells != 1 {
		t.Fatalf("P26.1: %+v", x)
	}
	isUnder(t, "the end", w)
}

// P26.1: a letter goes to whom it is to alone, and is gone.
func TestDeliver(t *testing.T) {
	for i := range api.MaxNodes {
		w := world.New()
		w.Bag().Put(asks(1, i, 1, put("a", "b")))
		w.Bag().Put(asks(2, i, 7, get("a")))
		does(t, w, 0, deliver(0))
		isUnder(t, "a letter to a node", w, asks(2, i, 7, get("a")))
		for j := range api.MaxNodes {
			if got := w.Node(j).Waits(); (got == 1) != (i == j) {
				t.Errorf("P26.1: a letter to node %d: %d wait at %d", i, got, j)
			}
			does(t, w, 0, sync(j))
		}
		code := 17
		if i == 0 {
			code = 0
		}
		a := api.Answer{Code: code}
		if i == 0 {
			a.Version = 1
		}
		isUnder(t, "its answer", w, asks(2, i, 7, get("a")), answers(1, i, 1, a))
	}
	for i := range api.MaxSessions {
		w := world.New()
		for s := range api.MaxSessions {
			does(t, w, 0, ask(s, get("a")), lose(0))
		}
		w.Bag().Put(answers(i, 0, 1, api.Answer{Version: 5, Value: "x"}))
		w.Bag().Put(plans(i, one()))
		does(t, w, 0, deliver(1))
		isUnder(t, "a letter to a session", w, answers(i, 0, 1, api.Answer{Version: 5, Value: "x"}), asks(i, 0, 1, get("a")))
		does(t, w, 0, deliver(0))
		for s := range api.MaxSessions {
			if w.Session(s).Busy() != (s != i) {
				t.Errorf("P26.1: an answer to session %d: %d is Busy %v", i, s, w.Session(s).Busy())
			}
		}
	}
	w := world.New()
	for s := range api.MaxSessions {
		w.Bag().Put(wants(s))
		does(t, w, 0, deliver(0))
		isUnder(t, "a letter to the mover", w, plans(s, one()))
		does(t, w, 0, lose(0))
	}
}

// P26.1: a letter that isn't the first one is delivered, lost and doubled by its number.
func TestNumbers(t *testing.T) {
	three := func() *world.World {
		w := world.New()
		does(t, w, 0, ask(0, get("a")), ask(1, get("a")), ask(2, get("a")))
		return w
	}
	for i := range 3 {
		rest := slices.Delete([]api.Letter{wants(0), wants(1), wants(2)}, i, i+1)
		w := three()
		does(t, w, 0, deliver(i))
		isUnder(t, "delivered", w, append(slices.Clone(rest), plans(i, one()))...)
		w = three()
		does(t, w, 0, lose(i))
		isUnder(t, "lost", w, rest...)
		w = three()
		does(t, w, 0, twice(i))
		isUnder(t, "doubled", w, wants(0), wants(1), wants(2), wants(i))
	}
}

// P26.1: a tick is the mover's, and then that of each session.
func TestTick(t *testing.T) {
	w := world.New()
	does(t, w, 0, ask(2, get("a")), ask(0, get("b")), split("m"), ask(1, get("c")), lose(0), lose(0), lose(0), lose(0))
	for range api.MaxRound - 1 {
		does(t, w, 0, tick())
		isUnder(t, "not yet", w)
	}
	does(t, w, 0, tick())
	cut := lt(api.LSplit, 100, 0, 1, 1, 2, 3)
	cut.Span.From = "m"
	isUnder(t, "all say it again", w, cut, wants(0), wants(1), wants(2))
}

// P26.1: of a crash so many bytes stay of that node alone; what waits is gone; a log that is trimmed is what there is.
func TestNodes(t *testing.T) {
	for i := range api.MaxNodes {
		for _, c := range []struct{ keep, version int }{{0, 0}, {-5, 0}, {math.MinInt, 0}, {5, 0}, {math.MaxInt, 1}, {1000, 1}} {
			w := world.New()
			w.Bag().Put(asks(0, 0, 1, put("a", "b")))
			does(t, w, 0, deliver(0), crash(i, c.keep), sync(0))
			cell := 1
			var want []api.Letter
			if i == 0 {
				cell = c.version
			} else {
				want = append(want, answers(0, 0, 1, api.Answer{Version: 1}))
			}
			isUnder(t, fmt.Sprintf("crash %d, %d", i, c.keep), w, want...)
			s, _ := w.Node(0).Hold().Find("a")
			if len(s.Cells) != cell {
				t.Errorf("P26.1: crash %d, %d: %+v", i, c.keep, s)
			}
		}
		w := world.New()
		w.Bag().Put(asks(0, 0, 1, put("a", "b")))
		does(t, w, 0, deliver(0), trim(i))
		if loose := w.Node(0).Loose(); (loose == 0) != (i == 0) {
			t.Errorf("P26.1: trim %d: %d are loose", i, loose)
		}
		isUnder(t, "a trim says nothing", w)
		does(t, w, 0, sync(0))
		isUnder(t, "and a sync", w, answers(0, 0, 1, api.Answer{Version: 1}))
	}
}

// P26.1: where the bag is full the first one goes for what is said, and nothing is doubled.
func TestFullBag(t *testing.T) {
	w := world.New()
	does(t, w, 0, ask(1, get("a")), ask(0, get("a")))
	for range api.MaxLetters - 2 {
		does(t, w, 0, twice(1))
	}
	does(t, w, api.ErrFull, twice(0))
	does(t, w, api.ErrNone, twice(api.MaxLetters))
	does(t, w, 0, ask(2, get("a")))
	all := w.Bag().All()
	if len(all) != api.MaxLetters || !letter.Same(all[0], wants(0)) || !letter.Same(all[api.MaxLetters-1], wants(2)) {
		t.Errorf("P26.1: %d under way, first %+v, last %+v", len(all), all[0], all[len(all)-1])
	}
	does(t, w, 0, deliver(3))
	all = w.Bag().All()
	if len(all) != api.MaxLetters || !letter.Same(all[0], wants(0)) || !letter.Same(all[api.MaxLetters-1], plans(0, one())) {
		t.Errorf("P26.1: %d under way, first %+v, last %+v", len(all), all[0], all[len(all)-1])
	}
}

// P26.1: what is said but is no letter isn't put, and what is said beside it is; what was asked stays asked.
func TestNoLetter(t *testing.T) {
	w := world.New()
	w.Session(0).Take(plans(0, api.Place{ID: 1, Epoch: 1, Node: 77, Span: sp("", "m")}, api.Place{ID: 2, Epoch: 1, Node: 2, Span: sp("m", "")}), 0)
	does(t, w, 0, ask(0, get("a")))
	isUnder(t, "to nobody", w)
	if !w.Session(0).Busy() {
		t.Error("P26.1: it isn't asked")
	}
	does(t, w, 0, watch(0, "", ""), poll(0, 0, 1))
	isUnder(t, "to nobody and to node 2", w, polls(0, 2, 0, 1, 0, "m", ""))
}

// P26.1: what is handed in is neither changed nor kept, its spare room too.
func TestMemory(t *testing.T) {
	w := world.New()
	writes := make([]api.Write, 0, 4)
	writes = append(writes, api.Write{Key: "a", Value: "x"}, api.Write{Key: "b", Value: "y"}, api.Write{Key: "c"})[:2]
	token := make([]api.Seen, 0, 4)
	token = append(token, seen("a", 0), seen("b", 1), seen("c", 2))[:2]
	does(t, w, 0, watch(0, "", "", token...), ask(0, api.Op{Kind: api.OBatch, Writes: writes}))
	if w0, t0 := writes[:3], token[:3]; w0[2] != (api.Write{Key: "c"}) || w0[0].Key != "a" || t0[2] != seen("c", 2) || t0[1] != seen("b", 1) {
		t.Fatalf("P26.1: what was handed in is changed: %+v, %+v", w0, t0)
	}
	was := state(w)
	for i := range 3 {
		writes[:3][i], token[:3][i] = api.Write{Key: "spoilt"}, seen("spoilt", -1)
	}
	for _, l := range w.Bag().All() {
		clear(l.Op.Writes)
		clear(l.Seen)
	}
	if got := state(w); got != was {
		t.Fatalf("P26.1: it is kept:\n%s\nwas\n%s", got, was)
	}
	does(t, w, 0, deliver(0), deliver(0), poll(0, 0, 1))
	ops := batch("x", "a", "b")
	ops.Writes[1].Value = "y"
	isUnder(t, "as it was asked", w, asks(0, 0, 1, ops), polls(0, 0, 0, 1, 0, "", "", seen("a", 0), seen("b", 1)))
}

// P26.1: two worlds that are told the same are the same, and neither is touched by the other one.
func TestTwoWorlds(t *testing.T) {
	one, other := world.New(), world.New()
	all := slices.Concat(begun(), steps())
	for _, a := range all {
		one.Do(a)
	}
	if state(other) != state(world.New()) {
		t.Error("P26.1: another one is touched")
	}
	for _, a := range all {
		other.Do(a)
	}
	if state(other) != state(one) {
		t.Error("P26.1: another one is unlike")
	}
}

// P26.2: one round written out: the nodes sync, what goes on is polled, what is there by then comes, and a tick.
func TestRound(t *testing.T) {
	w := world.New()
	known(t, w, 0)
	known(t, w, 1)
	does(t, w, 0, watch(1, "a", "c"), watch(0, "b", ""), watch(0, "", "x"), cancel(0, 0), ask(0, put("c", "x")), deliver(0))
	for i := range api.MaxNodes {
		w.Node(i).Take(asks(2, i, 7, get("a")))
	}
	// by then: an answer to session 0; one each of nodes 0, 1 and 2 to session 2; polls of watches 1 of session 0, 0 of session 1
	was := w.Now()
	w.Calm(1)
	if got := w.Now() - was; got != 3+2+6+1 {
		t.Fatalf("P26.2: %d acts", got)
	}
	isUnder(t, "polls wait at node 0", w)
	if n := w.Node(0); n.Waits() != 2 || w.Session(0).Busy() {
		t.Fatalf("P26.2: %d wait", n.Waits())
	}
	does(t, w, 0, sync(0))
	event := []api.Event{{Key: "c", Version: 1, Value: "x"}}
	first, second := lt(api.LFeed, 0, 200, 1), lt(api.LFeed, 0, 201, 0)
	first.Span, first.Events = sp("", "x"), event
	second.Span = sp("a", "c")
	isUnder(t, "in order, with the most credit", w, first, second)
}

// P26.2: what is said while letters come waits for the next round; the first one comes first.
func TestByThen(t *testing.T) {
	w := world.New()
	does(t, w, 0, ask(1, get("a")), ask(0, get("a")), ask(2, get("a")))
	w.Calm(1)
	isUnder(t, "plans", w, plans(1, one()), plans(0, one()), plans(2, one()))
	w.Calm(1)
	isUnder(t, "requests", w, asks(1, 0, 1, get("a")), asks(0, 0, 1, get("a")), asks(2, 0, 1, get("a")))
	if w.Now() != 3+2*(3+3+1) {
		t.Errorf("P26.2: Now %d", w.Now())
	}
	w.Calm(1)
	isUnder(t, "they wait for a sync", w)
	w.Calm(1)
	for s := range api.MaxSessions {
		if c := w.Session(s).Calls(); len(c) != 1 || c[0].Answer.Code != 14 {
			t.Errorf("P26.2: session %d: %+v", s, c)
		}
	}
	// the answers come in the order in which they were asked for: 1, 0, 2
	if a, b, c := w.Session(1).Calls()[0].Answered, w.Session(0).Calls()[0].Answered, w.Session(2).Calls()[0].Answered; b != a+1 || c != b+1 || c != w.Now()-1 {
		t.Errorf("P26.2: answered at %d, %d, %d", a, b, c)
	}
}

// P26.2: the tick of a round is its last act, and there is one.
func TestTicks(t *testing.T) {
	w := world.New()
	does(t, w, 0, ask(0, get("a")), lose(0))
	w.Calm(api.MaxRound - 1)
	isUnder(t, "not yet", w)
	w.Calm(1)
	isUnder(t, "it is said again, and waits for the next round", w, wants(0))
}

// P26.2: how often is held from 0 to 1000.
func TestHeld(t *testing.T) {
	for _, c := range []struct{ rounds, want int }{{math.MinInt, 0}, {-1, 0}, {0, 0}, {1, 1}, {2, 2}, {999, 999}, {1000, 1000}, {1001, 1000}, {math.MaxInt, 1000}} {
		w := world.New()
		w.Calm(c.rounds)
		if w.Now() != 4*c.want {
			t.Errorf("P26.2: Calm(%d): Now %d", c.rounds, w.Now())
		}
	}
}

// P26.2: of the watches those that aren't over are polled, by session and by number.
func TestPolled(t *testing.T) {
	w := world.New()
	for s := range api.MaxSessions {
		known(t, w, s)
		does(t, w, 0, watch(s, "a", ""), watch(s, "b", ""), watch(s, "c", ""))
	}
	does(t, w, 0, cancel(0, 0), cancel(1, 1), cancel(2, 2))
	was := w.Now()
	w.Calm(1)
	if got := w.Now() - was; got != 3+6+6+1 {
		t.Fatalf("P26.2: %d acts", got)
	}
	does(t, w, 0, sync(0))
	var got []string
	for _, l := range w.Bag().All() {
		got = append(got, fmt.Sprint(l.To, "/", l.N[0], "/", l.Span.From))
	}
	if fmt.Sprint(got) != "[200/1/b 200/2/c 201/0/a 201/2/c 202/0/a 202/1/b]" {
		t.Errorf("P26.2: polled: %v", got)
	}
}

// P26.2: a watch that ends while the letters come isn't polled from the next round on.
func TestCompacted(t *testing.T) {
	w := world.New()
	known(t, w, 0)
	does(t, w, 0, watch(0, "", ""))
	for i := range api.MaxHistory + 1 {
		does(t, w, 0, ask(1, put("a", fmt.Sprint(i))))
		for w.Session(1).Busy() {
			does(t, w, 0, sync(0), deliver(0))
		}
	}
	w.Calm(2)
	if x, _ := w.Session(0).Get(0); x.Over != 1 {
		t.Fatalf("P26.2: %+v", x)
	}
	was := w.Now()
	w.Calm(3) // the answer to the poll of the round in which it ended still comes
	if w.Now()-was != 3*4+1 {
		t.Errorf("P26.2: %d acts", w.Now()-was)
	}
}
