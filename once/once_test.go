package once_test

import (
	"maps"
	"math"
	"slices"
	"strings"
	"testing"

	"estuary/api"
	"estuary/once"
	"estuary/op"
)

type dones = []api.Done

const bound = 1 << 48 // the first number that no answer has bytes of

var largeText = strings.Repeat("t", 256)

// did: a request that was answered by a value of that name.
func did(session, id int, name string) api.Done {
	return api.Done{Session: session, ID: id, Answer: api.Answer{Value: name, Version: 1}}
}

// told: one that was answered by rows.
func told(session, id int, keys ...string) api.Done {
	var rows []api.Row
	for _, k := range keys {
		rows = append(rows, api.Row{Key: k, Value: "v", Version: 7})
	}
	return api.Done{Session: session, ID: id, Answer: api.Answer{Rows: rows}}
}

func with(d api.Done, a api.Answer) api.Done {
	d.Answer = a
	return d
}

func sameDone(x, y api.Done) bool {
	return x.Session == y.Session && x.ID == y.ID && op.SameAnswer(x.Answer, y.Answer)
}

func same(a, b dones) bool { return slices.EqualFunc(a, b, sameDone) }

// copies: their Rows too.
func copies(l dones) dones {
	l = slices.Clone(l)
	for i := range l {
		l[i].Answer.Rows = slices.Clone(l[i].Answer.Rows)
	}
	return l
}

// some: good and wrong ones.
func some() dones {
	var all dones
	for _, session := range []int{-1, 0, 1, 2, 3} {
		for _, id := range []int{0, 1, 2, api.MaxRev} {
			all = append(all, did(session, id, "v"))
		}
	}
	return append(all, did(0, 1, "w"), did(1, 2, "w"), told(1, 2, "a", "b"), told(2, 1, "a"), did(1, -1, "v"), did(1, api.MaxRev+1, "v"), did(1, 2, largeText), told(0, 2, largeText),
		with(did(2, 2, ""), api.Answer{Code: -1}), with(did(2, 2, ""), api.Answer{Code: int(api.ErrClash), Version: 3}), did(math.MinInt, math.MinInt, "v"), did(math.MaxInt, math.MaxInt, "v"))
}

// lists: of none, one, two and three of some, in any order.
func lists() []dones {
	all := []dones{nil}
	for i := 0; len(all[i]) < 3; i++ { // each makes all that are one longer
		for _, d := range some() {
			all = append(all, append(slices.Clone(all[i]), d))
		}
	}
	return all
}

// good: all that are Is of each session not there, or with one of a few requests.
func good() []dones {
	all := []dones{nil}
	for session := range 3 {
		few := dones{did(session, 1, "v"), did(session, 2, "w"), told(session, 2, "a", "b"), did(session, api.MaxRev, "")}
		for _, l := range all {
			for _, d := range few {
				all = append(all, append(slices.Clone(l), d))
			}
		}
	}
	return all
}

// pairs: of some lists, good and wrong ones.
func pairs() [][2]dones {
	var all [][2]dones
	for _, a := range good() {
		for _, b := range good() {
			all = append(all, [2]dones{a, b})
		}
	}
	wrong := lists()
	for i, a := range wrong {
		if i%7 == 0 {
			all = append(all, [2]dones{a, wrong[i*31%len(wrong)]}, [2]dones{a, good()[i%125]}, [2]dones{good()[i*11%125], a})
		}
	}
	return all
}

// isOnce: the document's words once more, in another way than the program's.
func isOnce(l dones) bool {
	sessions := map[int]bool{}
	for i, d := range l {
		if d.Session != 0 && d.Session != 1 && d.Session != 2 || d.ID <= 0 || d.ID > 1000000000000 || len(op.AnswerBytes(d.Answer)) == 0 {
			return false
		}
		if i > 0 && l[i-1].Session > d.Session {
			return false
		}
		sessions[d.Session] = true
	}
	return len(sessions) == len(l)
}

// wantFind: likewise.
func wantFind(l dones, session, id int) (api.Answer, int) {
	for _, d := range l {
		if d.Session != session {
			continue
		}
		if d.ID == id {
			return d.Answer, 1
		}
		if d.ID > id {
			return api.Answer{}, 2
		}
		return api.Answer{}, 0
	}
	return api.Answer{}, 0
}

// wantWith: likewise: by what is ahead of its place, one by one.
func wantWith(l dones, d api.Done) dones {
	if _, n := wantFind(l, d.Session, d.ID); n == 2 {
		return l
	}
	there := slices.ContainsFunc(l, func(x api.Done) bool { return x.Session == d.Session })
	var out dones
	put := false
	for _, x := range l {
		if put || x.Session < d.Session || there && x.Session > d.Session {
			out = append(out, x)
			continue
		}
		out, put = append(out, d), true
		if !there {
			out = append(out, x)
		}
	}
	if !put {
		out = append(out, d)
	}
	return out
}

// wantJoin: likewise: by a map.
func wantJoin(a, b dones) dones {
	best := map[int]api.Done{}
	for _, l := range []dones{a, b} {
		for _, d := range l {
			if x, there := best[d.Session]; !there || d.ID > x.ID {
				best[d.Session] = d
			}
		}
	}
	var l dones
	for _, session := range slices.Sorted(maps.Keys(best)) {
		l = append(l, best[session])
	}
	return l
}

// P14.1
func TestIs(t *testing.T) {
	rows := func(n int) api.Answer { return api.Answer{Rows: make([]api.Row, n)} }
	for _, c := range []struct {
		l    dones
		want bool
	}{
		{nil, true}, {dones{}, true}, {dones{did(0, 1, "v")}, true}, {dones{did(2, 1, "v")}, true}, {dones{did(0, 3, "v"), did(2, 1, "")}, true},
		{dones{did(0, 9, "v"), did(1, 9, "v"), did(2, 9, "v")}, true}, {dones{did(0, 3, "v"), did(1, 2, "v"), did(2, 1, "v")}, true}, {dones{did(1, api.MaxRev, "v")}, true},
		// a Session is wrong
		{dones{did(-1, 1, "v")}, false}, {dones{did(3, 1, "v")}, false}, {dones{did(math.MinInt, 1, "v")}, false}, {dones{did(math.MaxInt, 1, "v")}, false}, {dones{did(-1, 1, "v"), did(0, 1, "v")}, false}, {dones{did(2, 1, "v"), did(3, 1, "v")}, false},
		{dones{did(0, 1, "v"), did(1, 1, "v"), did(2, 1, "v"), did(3, 1, "v")}, false}, {dones{did(api.Sessions, 1, "v")}, false},
		// they don't rise
		{dones{did(1, 1, "v"), did(0, 1, "v")}, false}, {dones{did(1, 1, "v"), did(1, 1, "v")}, false}, {dones{did(1, 1, "v"), did(1, 2, "v")}, false}, {dones{did(0, 1, "v"), did(0, 1, "v")}, false},
		{dones{did(0, 1, "v"), did(2, 1, "v"), did(1, 1, "v")}, false}, {dones{did(0, 1, "v"), did(1, 1, "v"), did(0, 2, "v")}, false}, {dones{did(0, 1, "v"), did(2, 1, "v"), did(2, 2, "v")}, false},
		// an ID is wrong
		{dones{did(0, 0, "v")}, false}, {dones{did(0, -1, "v")}, false}, {dones{did(0, api.MaxRev+1, "v")}, false}, {dones{did(0, math.MaxInt, "v")}, false}, {dones{did(0, math.MinInt, "v")}, false}, {dones{did(0, 1, "v"), did(1, 0, "v")}, false}, {dones{did(0, 1, "v"), did(1, 2, "v"), did(2, api.MaxRev+1, "v")}, false},
		// answers, good and wrong ones
		{dones{{ID: 1}}, true}, {dones{with(did(1, 1, ""), api.Answer{Code: int(api.ErrNone)})}, true}, {dones{with(did(1, 1, ""), api.Answer{Code: bound - 1, Version: bound - 1, Value: largeText[1:]})}, true}, {dones{told(1, 1, "a", "a", "")}, true}, {dones{with(did(0, 1, ""), rows(api.MaxRows))}, true},
		{dones{with(did(1, 1, ""), api.Answer{Code: -1})}, false}, {dones{with(did(1, 1, ""), api.Answer{Code: bound})}, false}, {dones{with(did(1, 1, ""), api.Answer{Version: -1})}, false}, {dones{with(did(1, 1, ""), api.Answer{Version: bound})}, false},
		{dones{did(1, 1, largeText)}, false}, {dones{told(1, 1, "a", largeText)}, false}, {dones{with(did(0, 1, ""), rows(api.MaxRows+1))}, false}, {dones{did(0, 1, "v"), did(1, 1, largeText)}, false}, {dones{did(0, 1, largeText), did(1, 1, "v")}, false},
	} {
		if got := once.Is(c.l); got != c.want {
			t.Errorf("P14.1: Is(%#v): %v", c.l, got)
		}
	}
	for _, l := range lists() {
		if once.Is(l) != isOnce(l) {
			t.Fatalf("P14.1: Is(%#v): %v", l, !isOnce(l))
		}
	}
	for _, l := range good() {
		if !once.Is(l) {
			t.Fatalf("P14.1: Is(%#v): false", l)
		}
	}
}

// P14.1
func TestFind(t *testing.T) {
	three := dones{did(0, 5, "a"), told(1, 9, "b", "c"), with(did(2, api.MaxRev, ""), api.Answer{Code: int(api.ErrClash), Version: 3})}
	for _, c := range []struct {
		l           dones
		session, id int
		want        api.Answer
		n           int
	}{
		{nil, 0, 1, api.Answer{}, 0}, {dones{}, 0, 0, api.Answer{}, 0}, {three[:1], 1, 1, api.Answer{}, 0}, {three[1:], 0, 5, api.Answer{}, 0},
		{three, 0, 6, api.Answer{}, 0}, {three, 0, 5, three[0].Answer, 1}, {three, 0, 4, api.Answer{}, 2}, {three, 0, 1, api.Answer{}, 2},
		{three, 1, 10, api.Answer{}, 0}, {three, 1, 9, three[1].Answer, 1}, {three, 1, 8, api.Answer{}, 2}, {three, 1, 5, api.Answer{}, 2},
		{three, 2, api.MaxRev + 1, api.Answer{}, 0}, {three, 2, api.MaxRev, three[2].Answer, 1}, {three, 2, api.MaxRev - 1, api.Answer{}, 2},
		// wrong numbers
		{three, 0, 0, api.Answer{}, 2}, {three, 0, math.MinInt, api.Answer{}, 2}, {three, 0, math.MaxInt, api.Answer{}, 0}, {three, -1, 5, api.Answer{}, 0}, {three, 3, 5, api.Answer{}, 0}, {three, math.MaxInt, 5, api.Answer{}, 0},
		// wrong lists
		{dones{three[2], three[1], three[0]}, 0, 5, three[0].Answer, 1}, {dones{did(1, 3, "a"), did(1, 4, "b")}, 1, 4, api.Answer{}, 0}, {dones{did(1, 4, "a"), did(1, 3, "b")}, 1, 3, api.Answer{}, 2}, {dones{did(1, 3, "a"), did(1, 3, "b")}, 1, 3, did(1, 3, "a").Answer, 1},
		{dones{did(-7, 0, largeText)}, -7, 0, did(0, 0, largeText).Answer, 1}, {dones{did(-7, 0, "v")}, -7, 1, api.Answer{}, 0}, {dones{did(8, -3, "v")}, 8, -4, api.Answer{}, 2},
	} {
		if got, n := once.Find(c.l, c.session, c.id); !op.SameAnswer(got, c.want) || n != c.n {
			t.Errorf("P14.1: Find(%#v, %d, %d): %#v, %d", c.l, c.session, c.id, got, n)
		}
	}
	for _, l := range lists() {
		for session := -1; session <= 3; session++ {
			for _, id := range []int{-1, 0, 1, 2, 3, api.MaxRev, api.MaxRev + 1} {
				want, wantN := wantFind(l, session, id)
				if got, n := once.Find(l, session, id); !op.SameAnswer(got, want) || n != wantN {
					t.Fatalf("P14.1: Find(%#v, %d, %d): %#v, %d", l, session, id, got, n)
				}
			}
		}
	}
}

// P14.1
func TestWith(t *testing.T) {
	a, b, c := did(0, 5, "a"), told(1, 9, "b", "c"), did(2, api.MaxRev, "c")
	for _, x := range []struct {
		l    dones
		d    api.Done
		want dones
	}{
		// a new session
		{nil, a, dones{a}}, {dones{}, b, dones{b}}, {dones{b, c}, a, dones{a, b, c}}, {dones{a, c}, b, dones{a, b, c}}, {dones{a, b}, c, dones{a, b, c}}, {dones{b}, c, dones{b, c}}, {dones{b}, a, dones{a, b}},
		// a later request, the same one, one that is below
		{dones{a, b, c}, did(0, 6, "n"), dones{did(0, 6, "n"), b, c}}, {dones{a, b, c}, told(1, 10, "n"), dones{a, told(1, 10, "n"), c}}, {dones{a, b, c}, did(2, api.MaxRev+1, "n"), dones{a, b, did(2, api.MaxRev+1, "n")}},
		{dones{a, b, c}, did(0, 5, "n"), dones{did(0, 5, "n"), b, c}}, {dones{a, b, c}, did(1, 9, "n"), dones{a, did(1, 9, "n"), c}}, {dones{a, b, c}, told(2, api.MaxRev, "n"), dones{a, b, told(2, api.MaxRev, "n")}}, {dones{a, b, c}, b, dones{a, b, c}},
		{dones{a, b, c}, did(0, 4, "n"), dones{a, b, c}}, {dones{a, b, c}, did(1, 8, "n"), dones{a, b, c}}, {dones{a, b, c}, did(1, 1, "n"), dones{a, b, c}}, {dones{a, b, c}, did(2, api.MaxRev-1, "n"), dones{a, b, c}},
		// what is wrong has its place, too
		{dones{a, b}, did(-1, 1, "n"), dones{did(-1, 1, "n"), a, b}}, {dones{a, b}, did(3, 1, "n"), dones{a, b, did(3, 1, "n")}}, {dones{a}, did(1, 0, "n"), dones{a, did(1, 0, "n")}}, {dones{a}, did(0, 0, "n"), dones{a}}, {nil, did(0, -4, "n"), dones{did(0, -4, "n")}}, {dones{a}, did(0, 6, largeText), dones{did(0, 6, largeText)}}, {dones{a}, did(0, math.MinInt, "n"), dones{a}}, {dones{a}, did(0, math.MaxInt, "n"), dones{did(0, math.MaxInt, "n")}},
		// wrong lists
		{dones{c, b, a}, did(1, 10, "n"), dones{c, did(1, 10, "n"), a}}, {dones{c, b, a}, did(1, 8, "n"), dones{c, b, a}}, {dones{c, a}, b, dones{b, c, a}}, {dones{a, a}, did(0, 6, "n"), dones{did(0, 6, "n"), a}}, {dones{a, did(0, 7, "n")}, did(0, 6, "n"), dones{did(0, 6, "n"), did(0, 7, "n")}}, {dones{did(0, 7, "n"), a}, did(0, 6, "n"), dones{did(0, 7, "n"), a}},
	} {
		if got := once.With(x.l, x.d); !same(got, x.want) {
			t.Errorf("P14.1: With(%#v, %#v): %#v", x.l, x.d, got)
		}
	}
}

// P14.1: of all lists, and what is good stays so.
func TestWithOfAll(t *testing.T) {
	for _, l := range good() {
		for _, d := range some() {
			got := once.With(l, d)
			if !same(got, wantWith(l, d)) || isOnce(dones{d}) && !once.Is(got) {
				t.Fatalf("P14.1: With(%#v, %#v): %#v", l, d, got)
			}
		}
	}
	for i, l := range lists() {
		for j, d := range some() {
			if (i+j)%5 != 0 { // some of the pairs
				continue
			}
			if got := once.With(l, d); !same(got, wantWith(l, d)) {
				t.Fatalf("P14.1: With(%#v, %#v): %#v", l, d, got)
			}
		}
	}
}

// P14.1
func TestJoin(t *testing.T) {
	a, b, c := did(0, 5, "a"), told(1, 9, "b", "c"), did(2, api.MaxRev, "c")
	for _, x := range []struct{ a, b, want dones }{
		{nil, nil, nil}, {dones{}, nil, nil}, {dones{a}, nil, dones{a}}, {nil, dones{a, c}, dones{a, c}}, {dones{a, b, c}, dones{a, b, c}, dones{a, b, c}},
		{dones{a}, dones{b}, dones{a, b}}, {dones{b}, dones{a}, dones{a, b}}, {dones{a, c}, dones{b}, dones{a, b, c}}, {dones{b}, dones{a, c}, dones{a, b, c}},
		// the greater one, whichever has it
		{dones{a, b}, dones{did(0, 6, "n")}, dones{did(0, 6, "n"), b}}, {dones{did(0, 6, "n")}, dones{a, b}, dones{did(0, 6, "n"), b}}, {dones{a, b}, dones{did(0, 4, "n"), c}, dones{a, b, c}}, {dones{did(0, 4, "n"), c}, dones{a, b}, dones{a, b, c}},
		{dones{did(0, 6, "n"), did(1, 8, "n"), did(2, 1, "n")}, dones{a, b, c}, dones{did(0, 6, "n"), b, c}}, {dones{a, b, c}, dones{did(0, 1, "n"), told(1, 10, "n"), did(2, api.MaxRev-1, "n")}, dones{a, told(1, 10, "n"), c}},
		// of one ID the first list's
		{dones{a}, dones{did(0, 5, "n")}, dones{a}}, {dones{did(0, 5, "n")}, dones{a}, dones{did(0, 5, "n")}}, {dones{a, b, c}, dones{did(0, 5, "x"), did(1, 9, "y"), did(2, api.MaxRev, "z")}, dones{a, b, c}}, {dones{did(1, 9, "y")}, dones{a, b, c}, dones{a, did(1, 9, "y"), c}},
		// wrong lists
		{dones{c, b}, dones{a}, dones{a, b, c}}, {dones{a, did(0, 6, "n")}, nil, dones{did(0, 6, "n")}}, {nil, dones{did(0, 6, "n"), a}, dones{did(0, 6, "n")}}, {dones{did(0, 6, "n"), did(0, 6, "m")}, dones{did(0, 6, "l")}, dones{did(0, 6, "n")}},
		{dones{did(-1, 0, "x")}, dones{did(3, -2, largeText), did(-1, -1, "y")}, dones{did(-1, 0, "x"), did(3, -2, largeText)}}, {dones{did(0, math.MinInt, "x"), did(math.MinInt, 1, "y")}, dones{did(0, math.MaxInt, "z"), did(math.MaxInt, 1, "y")}, dones{did(math.MinInt, 1, "y"), did(0, math.MaxInt, "z"), did(math.MaxInt, 1, "y")}},
	} {
		if got := once.Join(x.a, x.b); !same(got, x.want) {
			t.Errorf("P14.1: Join(%#v, %#v): %#v", x.a, x.b, got)
		}
	}
	for _, p := range pairs() {
		got := once.Join(p[0], p[1])
		if !same(got, wantJoin(p[0], p[1])) || isOnce(p[0]) && isOnce(p[1]) && !once.Is(got) {
			t.Fatalf("P14.1: Join(%#v, %#v): %#v", p[0], p[1], got)
		}
	}
}

// spoil: all of a list, the spare room and the rows and their spare room too.
func spoil(l dones) {
	l = l[:cap(l)]
	for i := range l {
		rows := l[i].Answer.Rows[:cap(l[i].Answer.Rows)]
		for j := range rows {
			rows[j] = api.Row{Key: "spoilt", Version: -9}
		}
		l[i] = did(-9, -9, "spoilt")
	}
}

// roomy: a list with spare room behind it and behind its rows, and that room.
func roomy(l ...api.Done) (dones, dones) {
	for i := range l {
		n := len(l[i].Answer.Rows)
		l[i].Answer.Rows = append(slices.Clone(l[i].Answer.Rows), api.Row{Key: "spare"})[:n]
	}
	whole := append(slices.Clone(l), did(7, 7, "spare"), did(8, 8, "spare"))
	return whole[:len(l)], whole
}

// wholes: a list as it is, with the spare room behind its rows.
func wholes(l dones) dones {
	l = slices.Clone(l)
	for i := range l {
		rows := l[i].Answer.Rows
		l[i].Answer.Rows = slices.Clone(rows[:cap(rows)])
	}
	return l
}

// P14.1: what is handed in is neither changed nor kept, and no two answers, nor two lists of one answer, share memory, their spare room and their Rows included.
func TestMemory(t *testing.T) {
	find := func(session, id int) func(a, b dones) dones {
		return func(a, _ dones) dones {
			answer, n := once.Find(a, session, id)
			return dones{{ID: n, Answer: answer}}
		}
	}
	for name, call := range map[string]func(a, b dones) dones{
		"Find, the first":         find(0, 3),
		"Find, the last":          find(2, 5),
		"Find, none":              find(1, 5),
		"Find, below":             find(2, 4),
		"With, a later one":       func(a, b dones) dones { return once.With(a, b[1]) },
		"With, the same":          func(a, _ dones) dones { return once.With(a, a[1]) },
		"With, one below":         func(a, b dones) dones { return once.With(a, told(2, 1, "b")) },
		"With, a new one":         func(a, b dones) dones { return once.With(a, b[0]) },
		"With, one ahead":         func(a, b dones) dones { return once.With(b, a[0]) },
		"With, one to none":       func(a, b dones) dones { return once.With(a[:0], b[0]) },
		"Join":                    func(a, b dones) dones { return once.Join(a, b) },
		"Join, the other":         func(a, b dones) dones { return once.Join(b, a) },
		"Join, of one":            func(a, _ dones) dones { return once.Join(a, nil) },
		"Join, of one, behind":    func(a, _ dones) dones { return once.Join(nil, a) },
		"Join, of itself":         func(a, _ dones) dones { return once.Join(a, a) },
		"Join, of none":           func(a, b dones) dones { return once.Join(a[:0], b[:0]) },
		"Join, of a wrong one":    func(a, b dones) dones { return once.Join(dones{a[1], a[0], a[1]}, b) },
		"With, of Rows of others": func(a, b dones) dones { return once.With(a, with(b[0], a[0].Answer)) },
	} {
		a, wholeA := roomy(told(0, 3, "a", "b"), told(2, 5, "c"))
		b, wholeB := roomy(told(1, 4, "d"), told(2, 6, "e", "f"))
		wasA, wasB := wholes(wholeA), wholes(wholeB)
		first, second := call(a, b), call(a, b)
		was := copies(second)
		spoil(first)
		if !same(wholes(wholeA), wasA) || !same(wholes(wholeB), wasB) {
			t.Errorf("P14.1: %s: what was handed in is changed: %#v, %#v", name, wholeA, wholeB)
		}
		spoil(wholeA)
		spoil(wholeB)
		if !same(second, was) {
			t.Errorf("P14.1: %s: what was answered is changed: %#v", name, second)
		}
	}
}

// P14.1: Rows that two share as they are handed in, each has for itself in what is answered.
func TestRowsApart(t *testing.T) {
	shared := told(0, 3, "a", "b").Answer
	l := dones{with(did(0, 3, ""), shared), with(did(2, 3, ""), shared)}
	for name, got := range map[string]dones{
		"With":             once.With(l, with(did(1, 3, ""), shared)),
		"With, of a below": once.With(l, did(2, 1, "")),
		"Join":             once.Join(l, dones{with(did(1, 3, ""), shared)}),
	} {
		want := copies(got)
		spoil(got[:1:1])
		if !same(got[1:], want[1:]) {
			t.Errorf("P14.1: %s: Rows are shared: %#v", name, got)
		}
	}
}

// request: of a session, to one of two halves of the keys.
type request struct{ session, id, half int }

func requests() []request {
	return []request{{0, 1, 0}, {0, 2, 1}, {0, 3, 0}, {2, 1, 1}}
}

// halves: what was done in each half; while they are one, both are the same.
type halves struct {
	done   [2]dones
	cut    bool
	effect map[request]int
	answer map[request]api.Answer
}

// come: a request comes, for the first time or not: it is looked for, and only if it is new it takes effect and is noted.
func (h *halves) come(t *testing.T, r request) {
	t.Helper()
	answer, n := once.Find(h.done[r.half], r.session, r.id)
	switch {
	case n == 1 && (h.effect[r] != 1 || !op.SameAnswer(answer, h.answer[r])):
		t.Fatalf("P14.2: %v: answered by %#v, not by %#v", r, answer, h.answer[r])
	case n == 0:
		h.effect[r]++
		h.answer[r] = api.Answer{Version: len(h.answer) + 1, Rows: []api.Row{{Key: "k", Version: r.id}}}
		d := api.Done{Session: r.session, ID: r.id, Answer: h.answer[r]}
		h.note(r, d)
		if again, n := once.Find(h.done[r.half], r.session, r.id); n != 1 || !op.SameAnswer(again, d.Answer) {
			t.Fatalf("P14.2: %v: done, but found is %#v, %d", r, again, n)
		}
	}
	if h.effect[r] > 1 {
		t.Fatalf("P14.2: %v took effect %d times", r, h.effect[r])
	}
}

// note: in its half alone, if they are cut.
func (h *halves) note(r request, d api.Done) {
	h.done[r.half] = once.With(h.done[r.half], d)
	if !h.cut {
		h.done[1-r.half] = h.done[r.half]
	}
}

// turn: they are cut, each having all that was done, or joined.
func (h *halves) turn() {
	if h.cut {
		joined := once.Join(h.done[0], h.done[1])
		h.done = [2]dones{joined, joined}
	}
	h.cut = !h.cut
}

// P14.2: by all orders of some requests coming, each as often as may be, with cuts and joins between: each takes effect once at most, and is answered by what it was answered first, or not at all.
func TestEachRequestOnce(t *testing.T) {
	all := requests()
	rows, tookEffect, whole := 1, 0, 0
	for range 7 {
		rows *= len(all) + 1
	}
	for row := range rows {
		h := &halves{effect: map[request]int{}, answer: map[request]api.Answer{}}
		for left := row + rows; left > 1; left /= len(all) + 1 { // its digits are the steps
			if step := left % (len(all) + 1); step < len(all) {
				h.come(t, all[step])
			} else {
				h.turn()
			}
			if !once.Is(h.done[0]) || !once.Is(h.done[1]) {
				t.Fatalf("P14.2: row %d: %#v", row, h.done)
			}
		}
		tookEffect += len(h.effect)
		if len(h.effect) == len(all) {
			whole++
		}
	}
	if tookEffect < 2*rows || whole < rows/100 {
		t.Errorf("P14.2: %d took effect, in %d of %d rows all: too few to tell much", tookEffect, whole, rows)
	}
}

// P14.2: a session that asks one by one, each again and again till it is answered, has each done once, also where letters of former ones come late.
func TestOneByOne(t *testing.T) {
	var l dones
	total := 0
	for id := 1; id <= 200; id++ {
		for session := range api.MaxSessions {
			for late := id; late > max(0, id-4); late-- {
				if _, n := once.Find(l, session, late); n == 0 {
					total++
					l = once.With(l, api.Done{Session: session, ID: late, Answer: api.Answer{Version: total}})
				}
			}
			if answer, n := once.Find(l, session, id); n != 1 || answer.Version != total {
				t.Fatalf("P14.2: session %d, request %d: %#v, %d", session, id, answer, n)
			}
			if _, n := once.Find(l, session, id-1); id > 1 && n != 2 {
				t.Fatalf("P14.2: session %d, request %d once more: %d", session, id-1, n)
			}
		}
	}
	if total != 200*api.MaxSessions || !once.Is(l) || len(l) != api.MaxSessions {
		t.Errorf("P14.2: %d took effect: %#v", total, l)
	}
}

// P14.1: of long lists, which aren't Is, too, each call comes back soon.
func TestLongLists(t *testing.T) {
	var a, b dones
	most := 200000
	for i := range most {
		a = append(a, did(i, 5, "a"))
		b = append(b, did(most-1-i, 4+i%3, "b"))
	}
	if once.Is(a) {
		t.Error("P14.1: Is of a long list")
	}
	if _, n := once.Find(a, most-1, 6); n != 0 {
		t.Errorf("P14.1: Find in a long list: %d", n)
	}
	if got := once.With(a, did(most, 1, "c")); len(got) != most+1 {
		t.Errorf("P14.1: With of a long list: %d", len(got))
	}
	for i, d := range once.Join(a, b) {
		want := did(i, 5, "a")
		if (most-1-i)%3 == 2 {
			want = did(i, 6, "b")
		}
		if !sameDone(d, want) {
			t.Fatalf("P14.1: Join of long lists: %#v, not %#v", d, want)
		}
	}
}
