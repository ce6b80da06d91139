package mover_test

import (
	"errors"
	"fmt"
	"math"
	"math/rand"
	"slices"
	"strings"
	"testing"

	"estuary/api"
	"estuary/fault"
	"estuary/letter"
	"estuary/mover"
)

// one: the only letter of these.
func one(t *testing.T, l letters, err error) api.Letter {
	t.Helper()
	if len(l) != 1 || err != nil {
		t.Fatalf("P21.1: %+v, %v: one letter is to be said", l, err)
	}
	return l[0]
}

func isSaid(t *testing.T, got letters, err error, want api.Letter) {
	t.Helper()
	if l := one(t, got, err); !letter.Same(l, want) || !letter.Is(l) {
		t.Fatalf("P21.1: said: %+v, not %+v", l, want)
	}
}

func isJob(t *testing.T, m *mover.State, want api.Job) {
	t.Helper()
	if got := m.Job(); got != want {
		t.Fatalf("P21.2: Job: %+v, not %+v", got, want)
	}
}

func isPlan(t *testing.T, m *mover.State, want ...api.Place) {
	t.Helper()
	if got := m.Plan(); !slices.Equal(got, want) {
		t.Fatalf("P21.2: Plan: %+v, not %+v", got, want)
	}
}

// P21.1, P21.2: a new one.
func TestNew(t *testing.T) {
	m := mover.New()
	isPlan(t, m, at(1, 1, 0, "", ""))
	isJob(t, m, api.Job{Phase: api.MIdle})
	for range 3 * api.MaxRound {
		if l := m.Tick(); l != nil {
			t.Fatalf("P21.1: said without a job: %+v", l)
		}
	}
	if _, err := m.Move("a", 1); err != nil {
		t.Fatal(err)
	}
	isPlan(t, mover.New(), at(1, 1, 0, "", ""))
	isJob(t, mover.New(), api.Job{})
}

// P21.1, P21.2: a shard of three pieces moves: each letter that is said, and what is told of the job meanwhile.
func TestMoves(t *testing.T) {
	m := mover.New()
	said, err := m.Move("k", 2)
	isSaid(t, said, err, to(api.LFreeze, 0, 1, 1))
	job := api.Job{Phase: api.MFreeze, Shard: 1, Epoch: 1, From: 0, To: 2}
	isJob(t, m, job)
	isSaid(t, m.Take(back(api.LFrozen, 0, 1, 1, 3)), nil, to(api.LPull, 0, 1, 1, 0))
	job.Phase, job.Pieces = api.MPull, 3
	isJob(t, m, job)
	isSaid(t, m.Take(with("one", back(api.LPiece, 0, 1, 1, 0))), nil, to(api.LPull, 0, 1, 1, 1))
	job.Piece = 1
	isJob(t, m, job)
	isSaid(t, m.Take(with("", back(api.LPiece, 0, 1, 1, 1))), nil, to(api.LPull, 0, 1, 1, 2))
	isSaid(t, m.Take(with("three", back(api.LPiece, 0, 1, 1, 2))), nil, with("one", to(api.LPush, 2, 1, 2, 0)))
	job.Phase, job.Piece = api.MPush, 0
	isJob(t, m, job)
	isSaid(t, m.Take(back(api.LPushed, 2, 1, 2, 0)), nil, to(api.LPush, 2, 1, 2, 1))
	isSaid(t, m.Take(back(api.LPushed, 2, 1, 2, 1)), nil, with("three", to(api.LPush, 2, 1, 2, 2)))
	job.Piece = 2
	isJob(t, m, job)
	isSaid(t, m.Take(back(api.LPushed, 2, 1, 2, 2)), nil, to(api.LInstall, 2, 1, 2, 3))
	job.Phase, job.Piece = api.MInstall, 0
	isJob(t, m, job)
	// the pieces lack: all of them are pushed again
	isSaid(t, m.Take(back(api.LInstalled, 2, 1, 2, 1)), nil, with("one", to(api.LPush, 2, 1, 2, 0)))
	job.Phase = api.MPush
	isJob(t, m, job)
	isSaid(t, m.Take(back(api.LPushed, 2, 1, 2, 0)), nil, to(api.LPush, 2, 1, 2, 1))
	isSaid(t, m.Take(back(api.LPushed, 2, 1, 2, 1)), nil, with("three", to(api.LPush, 2, 1, 2, 2)))
	isSaid(t, m.Take(back(api.LPushed, 2, 1, 2, 2)), nil, to(api.LInstall, 2, 1, 2, 3))
	isPlan(t, m, at(1, 1, 0, "", ""))
	isSaid(t, m.Take(back(api.LInstalled, 2, 1, 2, 0)), nil, to(api.LDrop, 0, 1, 1))
	job.Phase = api.MDrop
	isJob(t, m, job)
	isPlan(t, m, at(1, 2, 2, "", ""))
	if l := m.Take(back(api.LDropped, 0, 1, 1)); l != nil {
		t.Errorf("P21.2: said behind the end: %+v", l)
	}
	isJob(t, m, api.Job{})
	// and back, of one piece
	said, err = m.Move("k", 0)
	isSaid(t, said, err, to(api.LFreeze, 2, 1, 2))
	isSaid(t, m.Take(back(api.LFrozen, 2, 1, 2, 1)), nil, to(api.LPull, 2, 1, 2, 0))
	isSaid(t, m.Take(with("all", back(api.LPiece, 2, 1, 2, 0))), nil, with("all", to(api.LPush, 0, 1, 3, 0)))
	isSaid(t, m.Take(back(api.LPushed, 0, 1, 3, 0)), nil, to(api.LInstall, 0, 1, 3, 1))
	isSaid(t, m.Take(back(api.LInstalled, 0, 1, 3, 0)), nil, to(api.LDrop, 2, 1, 2))
	isJob(t, m, api.Job{Phase: api.MDrop, Shard: 1, Epoch: 2, From: 2, To: 0, Pieces: 1})
	m.Take(back(api.LDropped, 2, 1, 2))
	isPlan(t, m, at(1, 3, 0, "", ""))
}

// P21.1, P21.2: splits and joins, done and not done; new numbers are never told twice.
func TestCuts(t *testing.T) {
	m := mover.New()
	said, err := m.Split("m")
	isSaid(t, said, err, in("m", to(api.LSplit, 0, 1, 1, 2, 3)))
	isJob(t, m, api.Job{Phase: api.MCut, Shard: 1, Epoch: 1, Key: "m", A: 2, B: 3})
	isPlan(t, m, at(1, 1, 0, "", ""))
	if l := m.Take(back(api.LCut, 0, 1, 1, 1, 2)); l != nil {
		t.Errorf("P21.2: said behind the end: %+v", l)
	}
	isPlan(t, m, at(1, 1, 0, "", ""))
	isJob(t, m, api.Job{})
	said, err = m.Split("d")
	isSaid(t, said, err, in("d", to(api.LSplit, 0, 1, 1, 4, 5)))
	m.Take(back(api.LCut, 0, 1, 1, 1, 2)) // of the one ahead
	m.Take(back(api.LCut, 0, 1, 1, 0, 5)) // not the first new one
	isJob(t, m, api.Job{Phase: api.MCut, Shard: 1, Epoch: 1, Key: "d", A: 4, B: 5})
	m.Take(back(api.LCut, 0, 1, 1, 0, 4))
	isPlan(t, m, at(4, 1, 0, "", "d"), at(5, 1, 0, "d", ""))
	isJob(t, m, api.Job{})
	said, err = m.Join("a")
	isSaid(t, said, err, to(api.LJoin, 0, 4, 1, 5, 1, 6))
	isJob(t, m, api.Job{Phase: api.MCut, Shard: 4, Epoch: 1, Other: 5, OtherEpoch: 1, A: 6})
	m.Take(back(api.LCut, 0, 4, 1, 2, 6)) // any number but 0: not so
	isPlan(t, m, at(4, 1, 0, "", "d"), at(5, 1, 0, "d", ""))
	said, err = m.Join("c")
	isSaid(t, said, err, to(api.LJoin, 0, 4, 1, 5, 1, 7))
	m.Take(back(api.LCut, 0, 4, 1, 0, 6)) // of the one ahead
	isPlan(t, m, at(4, 1, 0, "", "d"), at(5, 1, 0, "d", ""))
	m.Take(back(api.LCut, 0, 4, 1, 0, 7))
	isPlan(t, m, at(7, 1, 0, "", ""))
	// at another node, of other epochs
	p := both(t)
	p.split("m")
	p.goOn(0, api.MIdle)
	for _, key := range []string{"a", "z", "z"} {
		p.move(key, 1)
		p.goOn(2, api.MIdle)
		p.move(key, 2)
		p.goOn(2, api.MIdle)
	}
	isPlan(t, p.m, at(2, 3, 2, "", "m"), at(3, 5, 2, "m", ""))
	isSaid(t, p.split("x"), nil, in("x", to(api.LSplit, 2, 3, 5, 4, 5)))
	isJob(t, p.m, api.Job{Phase: api.MCut, Shard: 3, Epoch: 5, From: 2, To: 2, Key: "x", A: 4, B: 5})
	p.take(p.w.answer(1))
	isSaid(t, p.join("b"), nil, to(api.LJoin, 2, 2, 3, 3, 5, 6))
	isJob(t, p.m, api.Job{Phase: api.MCut, Shard: 2, Epoch: 3, From: 2, To: 2, Other: 3, OtherEpoch: 5, A: 6})
	p.take(p.w.answer(0))
	isPlan(t, p.m, at(6, 1, 2, "", ""))
}

// P21.1, P21.2: a job is given up: its shard goes on where it is, under the next epoch.
func TestAborts(t *testing.T) {
	for _, pulls := range []int{-1, 0, 1, 2} {
		m := mover.New()
		m.Move("a", 1)
		job := api.Job{Phase: api.MThaw, Shard: 1, Epoch: 1, To: 1}
		if pulls >= 0 {
			m.Take(back(api.LFrozen, 0, 1, 1, 3))
			job.Pieces = 3
		}
		for i := range pulls {
			m.Take(with("x", back(api.LPiece, 0, 1, 1, i)))
		}
		said, err := m.Abort()
		isSaid(t, said, err, to(api.LThaw, 0, 1, 1))
		isJob(t, m, job)
		isPlan(t, m, at(1, 1, 0, "", ""))
		for _, late := range []api.Letter{back(api.LFrozen, 0, 1, 1, 3), back(api.LPiece, 0, 1, 1, 0), back(api.LPiece, 0, 1, 1, 1), back(api.LPiece, 0, 1, 1, 2), back(api.LThawed, 1, 1, 1), back(api.LThawed, 0, 1, 2)} {
			if l := m.Take(late); l != nil || m.Job() != job {
				t.Errorf("P21.2: of a late one: %+v, %+v", l, m.Job())
			}
		}
		if l := m.Take(back(api.LThawed, 0, 1, 1)); l != nil {
			t.Errorf("P21.2: said behind the end: %+v", l)
		}
		isJob(t, m, api.Job{})
		isPlan(t, m, at(1, 2, 0, "", ""))
		// the next one has nothing of it
		said, err = m.Move("a", 2)
		isSaid(t, said, err, to(api.LFreeze, 0, 1, 2))
		isSaid(t, m.Take(back(api.LFrozen, 0, 1, 2, 1)), nil, to(api.LPull, 0, 1, 2, 0))
		isSaid(t, m.Take(with("new", back(api.LPiece, 0, 1, 2, 0))), nil, with("new", to(api.LPush, 2, 1, 3, 0)))
	}
}

// code: of a call that is refused; it says nothing.
func code(t *testing.T, l letters, err error) api.Errno {
	t.Helper()
	if (err == nil) != (len(l) == 1) || err != nil && l != nil {
		t.Errorf("P21.1: %+v beside %v", l, err)
	}
	return fault.Code(err)
}

// P21.1: which error is told, where several apply, too.
func TestErrors(t *testing.T) {
	idle := func(p *pair) {}
	cutAt := func(keys ...string) func(p *pair) {
		return func(p *pair) {
			for _, k := range keys {
				p.split(k)
				p.goOn(0, api.MIdle)
			}
		}
	}
	full := cutAt("b", "d", "f", "h", "j", "l", "n")
	apart := func(p *pair) {
		cutAt("d", "m")(p)
		p.move("e", 1)
		p.goOn(1, api.MIdle)
	}
	busy := func(p *pair) { p.move("a", 1) }
	cutting := func(p *pair) { p.split("m") }
	bad := []string{"", tooLong, strings.Repeat("\xff", 9), "a much longer one"}
	for _, c := range []struct {
		name  string
		ahead func(p *pair)
		call  func(m *mover.State) (letters, error)
		want  api.Errno
	}{
		{"Move, where it is", idle, func(m *mover.State) (letters, error) { return m.Move("a", 0) }, api.ErrNone},
		{"Move, node -1", idle, func(m *mover.State) (letters, error) { return m.Move("a", -1) }, api.ErrPlace},
		{"Move, node 3", idle, func(m *mover.State) (letters, error) { return m.Move("a", 3) }, api.ErrPlace},
		{"Move, the least node", idle, func(m *mover.State) (letters, error) { return m.Move("a", math.MinInt) }, api.ErrPlace},
		{"Move, the mover's address", idle, func(m *mover.State) (letters, error) { return m.Move("a", api.Mover) }, api.ErrPlace},
		{"Move, node 2", idle, func(m *mover.State) (letters, error) { return m.Move("a", 2) }, 0},
		{"Move, no key, no node", idle, func(m *mover.State) (letters, error) { return m.Move("", 3) }, api.ErrPlace},
		{"Move, a job, no node", busy, func(m *mover.State) (letters, error) { return m.Move("a", 3) }, api.ErrBusy},
		{"Move, a job, no key", busy, func(m *mover.State) (letters, error) { return m.Move("", 1) }, api.ErrBusy},
		{"Move, a job, where it is", cutting, func(m *mover.State) (letters, error) { return m.Move("a", 0) }, api.ErrBusy},
		{"Move, where another one is", apart, func(m *mover.State) (letters, error) { return m.Move("a", 1) }, 0},
		{"Move, where it is, beside others", apart, func(m *mover.State) (letters, error) { return m.Move("e", 1) }, api.ErrNone},
		{"Split, its From", apart, func(m *mover.State) (letters, error) { return m.Split("d") }, api.ErrOrder},
		{"Split, its From at another node", apart, func(m *mover.State) (letters, error) { return m.Split("m") }, api.ErrOrder},
		{"Split, just above its From", apart, func(m *mover.State) (letters, error) { return m.Split("d\x00") }, 0},
		{"Split, the least key", idle, func(m *mover.State) (letters, error) { return m.Split("\x00") }, 0},
		{"Split, the longest key", idle, func(m *mover.State) (letters, error) { return m.Split(longest) }, 0},
		{"Split, a job", busy, func(m *mover.State) (letters, error) { return m.Split("m") }, api.ErrBusy},
		{"Split, a job, no key", cutting, func(m *mover.State) (letters, error) { return m.Split("") }, api.ErrBusy},
		{"Split of eight", full, func(m *mover.State) (letters, error) { return m.Split("x") }, api.ErrFull},
		{"Split of eight, its From", full, func(m *mover.State) (letters, error) { return m.Split("h") }, api.ErrOrder},
		{"Split of eight, no key", full, func(m *mover.State) (letters, error) { return m.Split("") }, api.ErrNone},
		{"Split of seven", cutAt("b", "d", "f", "h", "j", "l"), func(m *mover.State) (letters, error) { return m.Split("x") }, 0},
		{"Join of one", idle, func(m *mover.State) (letters, error) { return m.Join("a") }, api.ErrNone},
		{"Join of the last one", apart, func(m *mover.State) (letters, error) { return m.Join("z") }, api.ErrNone},
		{"Join of two nodes", apart, func(m *mover.State) (letters, error) { return m.Join("a") }, api.ErrOrder},
		{"Join of two nodes, the other way", apart, func(m *mover.State) (letters, error) { return m.Join("d") }, api.ErrOrder},
		{"Join of eight", full, func(m *mover.State) (letters, error) { return m.Join("a") }, 0},
		{"Join, a job", busy, func(m *mover.State) (letters, error) { return m.Join("a") }, api.ErrBusy},
		{"Join, a job, no key", cutting, func(m *mover.State) (letters, error) { return m.Join("") }, api.ErrBusy},
		{"Abort of none", idle, func(m *mover.State) (letters, error) { return m.Abort() }, api.ErrNone},
		{"Abort of a cut", cutting, func(m *mover.State) (letters, error) { return m.Abort() }, api.ErrBusy},
	} {
		p := both(t)
		c.ahead(p)
		job, places := p.m.Job(), p.m.Plan()
		l, err := c.call(p.m)
		if got := code(t, l, err); got != c.want || c.want != 0 && !errors.Is(err, c.want) {
			t.Errorf("P21.1: %s: %v, not %d", c.name, err, c.want)
		}
		if c.want != 0 && (p.m.Job() != job || !slices.Equal(p.m.Plan(), places)) {
			t.Errorf("P21.1: %s: an error changes something: %+v", c.name, p.m.Job())
		}
		for _, k := range bad {
			for name, call := range map[string]func() (letters, error){"Move": func() (letters, error) { return mover.New().Move(k, 1) }, "Split": func() (letters, error) { return mover.New().Split(k) }, "Join": func() (letters, error) { return mover.New().Join(k) }} {
				if l, err := call(); code(t, l, err) != api.ErrNone {
					t.Errorf("P21.1: %s at %q: %v", name, k, err)
				}
			}
		}
	}
	// refused ones spend no numbers
	p := both(t)
	full(p)
	for range 5 {
		p.split("x")
		p.split("b")
		p.join("z")
		p.split("")
		p.join("")
	}
	isSaid(t, p.join("a"), nil, to(api.LJoin, 0, 2, 1, 4, 1, 16))
}

// P21.1: in each phase: whether it may be given up, and that no other job begins.
func TestBusy(t *testing.T) {
	for phase := api.MFreeze; phase <= api.MDrop; phase++ {
		p := both(t)
		p.move("a", 1)
		p.goOn(2, phase)
		p.move("a", 2)
		p.move("a", -1)
		p.split("m")
		p.join("a")
		job := p.m.Job()
		got, err := p.m.Abort()
		if may := phase <= api.MPull; code(t, got, err) != map[bool]api.Errno{true: 0, false: api.ErrBusy}[may] || !may && p.m.Job() != job {
			t.Errorf("P21.1: Abort in phase %d: %v, %+v", phase, err, p.m.Job())
		}
	}
	p := both(t)
	p.move("a", 1)
	p.abort()
	for range 2 {
		if l, err := p.m.Abort(); code(t, l, err) != api.ErrBusy {
			t.Errorf("P21.1: Abort of what is given up: %v", err)
		}
		p.move("a", 1)
		p.split("m")
	}
}

// starts: a mover and its model at each phase and piece, of a plan of one and of a plan of three; name says which.
func starts(t *testing.T) map[string]func() *pair {
	all := map[string]func() *pair{}
	ahead := map[string]func() *pair{
		"one": func() *pair { return both(t) },
		"three": func() *pair {
			p := both(t)
			for _, k := range []string{"m", "d"} {
				p.split(k)
				p.goOn(0, api.MIdle)
			}
			p.move("z", 2)
			return p.goOn(2, api.MIdle)
		},
	}
	for name, begin := range ahead {
		all[name] = begin
		for phase := api.MFreeze; phase <= api.MDrop; phase++ {
			all[fmt.Sprint(name, ", phase ", phase)] = func() *pair {
				p := begin()
				p.move("a", 1)
				return p.goOn(3, phase)
			}
		}
		for _, phase := range []int{api.MPull, api.MPush} {
			for piece := 1; piece < 3; piece++ {
				all[fmt.Sprint(name, ", phase ", phase, ", piece ", piece)] = func() *pair {
					p := begin()
					p.move("a", 2)
					p.goOn(3, phase)
					for range piece {
						p.take(p.w.answer(0))
					}
					return p
				}
			}
		}
		all[name+", pushed again"] = func() *pair {
			p := begin()
			p.move("a", 1)
			p.goOn(1, api.MInstall)
			p.take(p.w.answer(1))
			return p
		}
		for _, phase := range []int{api.MFreeze, api.MPull} {
			all[fmt.Sprint(name, ", thawed in ", phase)] = func() *pair {
				p := begin()
				p.move("a", 1)
				p.goOn(3, phase)
				p.abort()
				return p
			}
		}
		all[name+", split"] = func() *pair {
			p := begin()
			p.split("c")
			return p
		}
	}
	all["three, joined"] = func() *pair {
		p := ahead["three"]()
		p.join("a")
		return p
	}
	return all
}

// near: the answer to what is said (of nothing: to what might be), and what is like it.
func near(p *pair) letters {
	x := back(api.LFrozen, 0, 1, 1, 1)
	if p.w.now != nil {
		x = p.w.answer(0)
	}
	var l letters
	numbers := []int{math.MinInt, -1, 0, 1, 2, 3, 4, 5, 6, 7, 8, api.MaxRev, api.MaxRev + 1, math.MaxInt}
	for kind := -1; kind <= api.LCut+2; kind++ {
		y := x
		y.Kind = kind
		l = append(l, y)
	}
	for _, n := range append(numbers, api.Mover-1, api.Mover, api.Mover+1, api.Sessions-1, api.Sessions, api.Sessions+2, api.Sessions+3) {
		y := x
		y.From = n
		l = append(l, y)
		y = x
		y.To = n
		l = append(l, y)
	}
	for i := range x.N {
		for _, n := range numbers {
			y := x
			y.N[i] = n
			l = append(l, y)
		}
	}
	for _, data := range []string{"", "other", strings.Repeat("d", 255), strings.Repeat("d", 256)} {
		l = append(l, with(data, x))
	}
	rich := x
	rich.Op, rich.Answer, rich.Span = api.Op{Kind: api.OPut, Key: "k"}, api.Answer{Code: 14}, api.Span{From: "z", To: "a"}
	rich.Seen, rich.Events, rich.Places = []api.Seen{{Key: "a"}}, []api.Event{{Key: "a"}}, places{at(9, 9, 9, "a", "b")}
	return append(l, rich)
}

// P21.2: at each phase and piece: what may come, what is like it, and what is not; then it goes on to its end.
func TestTake(t *testing.T) {
	for name, begin := range starts(t) {
		count := len(near(begin()))
		goes := 0
		for i := range count {
			p := begin()
			job := p.m.Job()
			p.take(near(p)[i])
			if p.m.Job() != job {
				goes++
			}
			if p.w.job().Pieces > 1000 {
				p.abort()
			}
			p.goOn(2, api.MIdle)
		}
		if idle := begin().w.now == nil; idle != (goes == 0) || goes == count {
			t.Errorf("P21.2: %s: %d of %d letters lead on", name, goes, count)
		}
	}
}

// P21.2: of two letters like the answer, the second one finds what the first one left.
func TestTakeTwo(t *testing.T) {
	for _, begin := range starts(t) {
		count := len(near(begin()))
		for i := range count {
			p := begin()
			first := near(p)[i]
			p.take(first)
			p.take(first)
			dice := rand.New(rand.NewSource(int64(i)))
			for range 4 {
				l := near(p)
				p.take(l[dice.Intn(len(l))])
			}
		}
	}
}

// P21.2: the plan is told to each session, in each phase, with all places; to nobody else.
func TestMap(t *testing.T) {
	for name, begin := range starts(t) {
		p := begin()
		for session := range api.MaxSessions {
			got := p.take(back(api.LMap, api.Sessions+session))
			if len(got) != 1 || got[0].Kind != api.LPlan || got[0].From != api.Mover || got[0].To != api.Sessions+session || !slices.Equal(got[0].Places, p.m.Plan()) || !letter.Is(got[0]) {
				t.Errorf("P21.2: %s: LMap: %+v", name, got)
			}
		}
		for _, from := range []int{math.MinInt, -1, 0, 2, 3, api.Mover, api.Sessions - 1, api.Sessions + api.MaxSessions, math.MaxInt} {
			if got := p.take(back(api.LMap, from)); got != nil {
				t.Errorf("P21.2: %s: LMap of %d: %+v", name, from, got)
			}
		}
		elsewhere := back(api.LMap, api.Sessions)
		for _, to := range []int{0, 1, api.Mover - 1, api.Mover + 1, api.Sessions, -1} {
			elsewhere.To = to
			if got := p.take(elsewhere); got != nil {
				t.Errorf("P21.2: %s: LMap to %d: %+v", name, to, got)
			}
		}
	}
	p := both(t)
	for _, k := range []string{"b", "d", "f", "h", "j", "l", "n"} {
		p.split(k)
		p.goOn(0, api.MIdle)
	}
	if got := p.take(back(api.LMap, api.Sessions+1)); len(got) != 1 || len(got[0].Places) != api.MaxShards {
		t.Errorf("P21.2: LMap of eight: %+v", got)
	}
}

// P21.1: each fifth tick since a phase, or a piece, began it is said again, whatever comes meanwhile that doesn't lead on.
func TestTick(t *testing.T) {
	for name, begin := range starts(t) {
		for ahead := range 2*api.MaxRound + 1 {
			p := begin()
			for i := range ahead {
				if got := p.tick(); (len(got) == 1) != ((i+1)%api.MaxRound == 0 && p.w.now != nil) {
					t.Errorf("P21.1: %s: tick %d: %+v", name, i+1, got)
				}
				p.take(back(api.LMap, api.Sessions))
				p.take(back(api.LFrozen, 0, 1, 1, 0))
				p.move("", 1)
				if p.w.now != nil {
					p.split("x")
					p.join("x")
				}
			}
			if p.w.now == nil {
				continue
			}
			for p.w.job().Phase != api.MIdle {
				n := 0
				if p.w.job().Phase == api.MFreeze {
					n = 3
				}
				p.take(p.w.answer(n))
				for i := range ahead {
					if got := p.tick(); (len(got) == 1) != ((i+1)%api.MaxRound == 0 && p.w.now != nil) {
						t.Errorf("P21.1: %s: tick %d of phase %d: %+v", name, i+1, p.w.job().Phase, got)
					}
				}
			}
		}
	}
	p := both(t)
	p.move("a", 1)
	for range 3 {
		p.tick()
	}
	p.abort()
	for i := range 3 * api.MaxRound {
		if got := p.tick(); (len(got) == 1) != ((i+1)%api.MaxRound == 0) {
			t.Errorf("P21.1: tick %d since Abort: %+v", i+1, got)
		}
	}
}

// P21.1, P21.2: long rows of all that may be done, at any key, with late letters among them.
func TestGoesOn(t *testing.T) {
	keys := []string{"", tooLong, "\x00", "a", "b", "d", "d\x00", longest, "m", "q", "x", "\xff"}
	ended := map[int]int{}
	most := 0
	for seed := range 60 {
		dice := rand.New(rand.NewSource(int64(seed)))
		p := both(t)
		var late letters
		for range 1500 {
			k := keys[dice.Intn(len(keys))]
			was := p.w.job().Phase
			switch dice.Intn(16) {
			case 0:
				p.move(k, dice.Intn(5)-1)
			case 1, 2:
				p.split(k)
			case 3:
				p.join(k)
			case 4:
				if dice.Intn(4) == 0 {
					p.abort()
				}
			case 5, 6:
				p.tick()
			case 7:
				l := near(p)
				p.take(l[dice.Intn(len(l))])
			case 8:
				if len(late) > 0 {
					p.take(late[dice.Intn(len(late))])
				}
			default:
				if p.w.now == nil {
					continue
				}
				l := p.w.answer(dice.Intn(4) * dice.Intn(2))
				late = append(late, l)
				p.take(l)
			}
			if p.w.now == nil {
				ended[was]++
			}
			most = max(most, len(p.w.l))
		}
	}
	if ended[api.MDrop] < 100 || ended[api.MThaw] < 30 || ended[api.MCut] < 300 || most != api.MaxShards {
		t.Errorf("P21.3: too few ends to tell much: %v; %d places at most", ended, most)
	}
}
