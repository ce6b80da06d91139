package plan_test

import (
	"math"
	"math/rand"
	"slices"
	"strings"
	"testing"

	"estuary/api"
	"estuary/plan"
)

type places = []api.Place

var (
	longest = strings.Repeat("k", api.MaxKey)
	tooLong = strings.Repeat("k", api.MaxKey+1)
)

func sp(from, to string) api.Span { return api.Span{From: from, To: to} }

func at(id, epoch, node int, from, to string) api.Place {
	return api.Place{ID: id, Epoch: epoch, Node: node, Span: sp(from, to)}
}

// none: what is told beside a false.
var none = api.Place{}

// spoilt: no answer has it.
var spoilt = at(-9, -9, -9, "spoilt", "spoilt")

// row: a good plan, cut at these keys; all its numbers are unlike.
func row(keys ...string) places {
	var l places
	from := ""
	for i, k := range append(slices.Clone(keys), "") {
		l = append(l, at(20-i, 3+i, (i+1)%api.MaxNodes, from, k))
		from = k
	}
	return l
}

// rows: good plans of each length.
func rows() []places {
	keys := []string{"\x00", "b", "b\x00", "d", longest, "m", "\xff"}
	all := []places{row("m"), row("\xff"), row(strings.Repeat("\xff", api.MaxKey)), row("b", "m", "x")}
	for n := range len(keys) + 1 {
		all = append(all, row(keys[:n]...))
	}
	return all
}

// cross: no plan: IDs twice, Spans that meet, that leave something out, that are none, out of order, numbers out of bounds.
func cross() places {
	return places{at(7, 2, 1, "m", "p"), at(3, 1, 0, "", "c"), at(7, 9, 2, "b", "k"), at(5, 0, 4, "k", "b"), at(3, 8, -1, "k", "m"), at(-1, 1, 1, "", ""), at(0, 5, 0, "", tooLong), at(6, 1, 2, "x", "")}
}

// twins: no plan: one ID, again and again.
func twins() places {
	return places{at(4, 1, 0, "", "g"), at(4, 2, 1, "g", "p"), at(4, 3, 2, "p", "")}
}

// lists: plans and what is none.
func lists() []places {
	all := append(rows(), nil, places{}, cross(), twins(), slices.Concat(row("m"), row("m")), slices.Concat(cross(), cross()), places{none}, places{none, none})
	for _, a := range cross() {
		for _, b := range slices.Concat(cross(), twins()) {
			all = append(all, places{a, b}, places{b, a, b}, places{b, b, a})
		}
	}
	backward := row("d", "m", "x")
	slices.Reverse(backward)
	return append(all, backward)
}

func keys() []string {
	return []string{"", "\x00", "\x00\x00", "a", "b", "b\x00", "c", "d", "g", "k", longest, tooLong, "kl", "m", "n", "p", "x", "z", "\xff", strings.Repeat("\xff", api.MaxKey)}
}

func ids() []int {
	return []int{math.MinInt, -1, 0, 1, 2, 3, 4, 5, 6, 7, 8, 13, 14, 16, 17, 18, 19, 20, 21, api.MaxRev, api.MaxRev + 1, math.MaxInt}
}

// isSpan, isKey, isIn, isPlan: the document's words once more, in another way than the program's.
func isSpan(s api.Span) bool {
	return len(s.From) <= 8 && len(s.To) <= 8 && (len(s.To) == 0 || strings.Compare(s.To, s.From) == 1)
}

func isKey(k string) bool { return len(k) >= 1 && len(k) <= 8 }

func isIn(s api.Span, k string) bool {
	return isSpan(s) && isKey(k) && strings.Compare(k, s.From) != -1 && (len(s.To) == 0 || strings.Compare(k, s.To) == -1)
}

func isPlan(l places) bool {
	numbers := map[int]bool{}
	end := ""
	for i, p := range l {
		if i > 0 && end == "" || p.Span.From != end || !isSpan(p.Span) || numbers[p.ID] {
			return false
		}
		if p.ID < 1 || p.ID > 1000000000000 || p.Epoch < 1 || p.Epoch > 1000000 || p.Node < 0 || p.Node > 2 {
			return false
		}
		numbers[p.ID] = true
		end = p.Span.To
	}
	return len(l) > 0 && len(l) < 9 && end == ""
}

// first: of an ID, -1 if there is none.
func first(l places, id int) int {
	found := -1
	for i, p := range slices.Backward(l) {
		if p.ID == id {
			found = i
		}
	}
	return found
}

// wantAt, wantAbove, wantMove, wantSplit, wantJoin: likewise.
func wantAt(l places, key string) (api.Place, bool) {
	found, ok := none, false
	for _, p := range slices.Backward(l) {
		if isIn(p.Span, key) {
			found, ok = p, true
		}
	}
	return found, ok
}

func wantAbove(l places, id int) (api.Place, bool) {
	i := first(l, id)
	if i < 0 || i+1 >= len(l) {
		return none, false
	}
	return l[i+1], true
}

func wantMove(l places, id, epoch, node int) places {
	var moved places
	for i, p := range l {
		if i == first(l, id) {
			p = at(id, epoch, node, p.Span.From, p.Span.To)
		}
		moved = append(moved, p)
	}
	return moved
}

func wantSplit(l places, id int, key string, a, b int) places {
	var parts places
	for i, p := range l {
		if i == first(l, id) && isIn(p.Span, key) && key != p.Span.From {
			parts = append(parts, at(a, 1, p.Node, p.Span.From, key), at(b, 1, p.Node, key, p.Span.To))
		} else {
			parts = append(parts, p)
		}
	}
	return parts
}

func wantJoin(l places, lo, hi, id int) places {
	var joined places
	for i := 0; i < len(l); i++ {
		if i == first(l, lo) && i+1 < len(l) && i+1 == first(l, hi) {
			joined = append(joined, at(id, 1, l[i].Node, l[i].Span.From, l[i+1].Span.To))
			i++
		} else {
			joined = append(joined, l[i])
		}
	}
	return joined
}

// P20.1
func TestNew(t *testing.T) {
	want := places{at(1, 1, 0, "", "")}
	l := plan.New()
	if !slices.Equal(l, want) || !plan.Is(l) {
		t.Fatalf("P20.1: New: %#v", l)
	}
	spoil(l)
	if got := plan.New(); !slices.Equal(got, want) {
		t.Errorf("P20.1: New, once more: %#v", got)
	}
}

// with: l, its place i changed.
func with(l places, i int, change func(p *api.Place)) places {
	l = slices.Clone(l)
	change(&l[i])
	return l
}

// P20.1
func TestIs(t *testing.T) {
	two := places{at(2, 1, 0, "", "m"), at(3, 1, 0, "m", "")}
	eight := row("b", "d", "f", "h", "j", "l", "n")
	for _, c := range []struct {
		name string
		l    places
		want bool
	}{
		{"none", nil, false}, {"an empty one", places{}, false}, {"one", places{at(1, 1, 0, "", "")}, true}, {"two", two, true}, {"eight", eight, true}, {"nine", row("b", "d", "f", "h", "j", "l", "n", "p"), false},
		{"a zero one", places{none}, false}, {"two of all", places{at(1, 1, 0, "", ""), at(2, 1, 0, "", "")}, false},
		{"nothing below", two[1:], false}, {"nothing above", two[:1], false}, {"a From in one", places{at(1, 1, 0, "a", "")}, false}, {"a To in one", places{at(1, 1, 0, "", "z")}, false},
		{"out of order", places{two[1], two[0]}, false}, {"a gap", places{two[0], at(3, 1, 0, "n", "")}, false}, {"both have l", places{two[0], at(3, 1, 0, "l", "")}, false},
		{"an end within", places{at(2, 1, 0, "", ""), at(3, 1, 0, "", "")}, false}, {"an end within, of three", places{two[0], at(4, 1, 0, "m", ""), at(3, 1, 0, "", "")}, false},
		{"an empty Span within", places{two[0], at(4, 1, 0, "m", "m"), two[1]}, false}, {"back and forth", places{at(2, 1, 0, "", "p"), at(4, 1, 0, "p", "m"), two[1]}, false},
		{"the longest key", places{at(2, 1, 0, "", longest), at(3, 1, 0, longest, "")}, true}, {"one that is too long", places{at(2, 1, 0, "", tooLong), at(3, 1, 0, tooLong, "")}, false},
		{"the last key", places{at(2, 1, 0, "", strings.Repeat("\xff", 8)), at(3, 1, 0, strings.Repeat("\xff", 8), "")}, true}, {"one that holds no key", places{at(2, 1, 0, "", "\x00"), at(3, 1, 0, "\x00", "")}, true},
		{"ID 0", places{at(0, 1, 0, "", "")}, false}, {"ID -1", places{at(-1, 1, 0, "", "")}, false}, {"ID MaxRev", places{at(api.MaxRev, 1, 0, "", "")}, true}, {"ID behind that", places{at(api.MaxRev+1, 1, 0, "", "")}, false},
		{"Epoch 0", places{at(1, 0, 0, "", "")}, false}, {"Epoch -1", places{at(1, -1, 0, "", "")}, false}, {"Epoch MaxEpoch", places{at(1, api.MaxEpoch, 0, "", "")}, true}, {"Epoch behind that", places{at(1, api.MaxEpoch+1, 0, "", "")}, false},
		{"Node -1", places{at(1, 1, -1, "", "")}, false}, {"Node 2", places{at(1, 1, 2, "", "")}, true}, {"Node 3", places{at(1, 1, 3, "", "")}, false},
		{"one ID twice", places{two[0], at(2, 1, 0, "m", "")}, false}, {"one ID, the first and the last", places{at(2, 1, 0, "", "d"), at(4, 1, 0, "d", "m"), at(2, 1, 0, "m", "")}, false}, {"one ID, the last two", places{at(4, 1, 0, "", "d"), at(2, 1, 0, "d", "m"), at(2, 1, 0, "m", "")}, false},
		{"IDs that fall", places{at(9, 1, 0, "", "m"), at(2, 1, 0, "m", "")}, true}, {"one Epoch, one Node", places{at(9, 7, 2, "", "m"), at(2, 7, 2, "m", "")}, true}, {"twins", twins(), false}, {"cross", cross(), false},
	} {
		if got := plan.Is(c.l); got != c.want {
			t.Errorf("P20.1: Is of %s: %v", c.name, got)
		}
	}
	for _, l := range lists() {
		if plan.Is(l) != isPlan(l) {
			t.Errorf("P20.1: Is(%#v): %v", l, !isPlan(l))
		}
	}
	for _, l := range rows() {
		if !plan.Is(l) {
			t.Errorf("P20.1: Is(%#v): false", l)
		}
	}
}

// changes: of one place, good ones and wrong ones.
func changes() []func(p *api.Place) {
	var all []func(p *api.Place)
	for _, id := range ids() {
		all = append(all, func(p *api.Place) { p.ID = id })
	}
	for _, n := range []int{math.MinInt, -1, 0, 1, 2, 3, 4, api.MaxEpoch, api.MaxEpoch + 1, math.MaxInt} {
		all = append(all, func(p *api.Place) { p.Epoch = n }, func(p *api.Place) { p.Node = n })
	}
	for _, k := range keys() {
		all = append(all, func(p *api.Place) { p.Span.From = k }, func(p *api.Place) { p.Span.To = k })
	}
	return append(all, func(p *api.Place) { *p = none })
}

// P20.1: good plans with each place changed in each way, with one more, one less, and with two that change their places.
func TestIsOfChanges(t *testing.T) {
	good, wrong := 0, 0
	held := func(l places) {
		t.Helper()
		want := isPlan(l)
		if plan.Is(l) != want {
			t.Fatalf("P20.1: Is(%#v): %v", l, !want)
		}
		if want {
			good++
		} else {
			wrong++
		}
	}
	for _, l := range rows() {
		for i := range l {
			for _, change := range changes() {
				held(with(l, i, change))
			}
			held(slices.Delete(slices.Clone(l), i, i+1))
			held(slices.Insert(slices.Clone(l), i, l[i]))
			for j := range l {
				held(with(with(l, i, func(p *api.Place) { *p = l[j] }), j, func(p *api.Place) { *p = l[i] }))
				held(with(l, i, func(p *api.Place) { p.ID = l[j].ID }))
				held(with(l, i, func(p *api.Place) { p.Span = l[j].Span }))
			}
			if i > 0 {
				for _, k := range keys() { // both sides of a cut change
					held(with(with(l, i, func(p *api.Place) { p.Span.From = k }), i-1, func(p *api.Place) { p.Span.To = k }))
				}
			}
		}
	}
	if good < 500 || wrong < 1000 {
		t.Errorf("P20.1: %d good ones and %d wrong ones: too few to tell much", good, wrong)
	}
}

// P20.1
func TestAt(t *testing.T) {
	three := places{at(4, 2, 1, "", "d"), at(2, 5, 0, "d", "m"), at(9, 1, 2, "m", "")}
	for _, c := range []struct {
		l    places
		key  string
		want api.Place
	}{
		{three, "\x00", three[0]}, {three, "a", three[0]}, {three, "c\xff", three[0]}, {three, "d", three[1]}, {three, "d\x00", three[1]}, {three, "lzzz", three[1]}, {three, longest, three[1]}, {three, "m", three[2]}, {three, "\xff", three[2]}, {three, strings.Repeat("\xff", api.MaxKey), three[2]}, {plan.New(), "x", at(1, 1, 0, "", "")},
		// what is no key, and no list
		{three, "", none}, {three, tooLong, none}, {plan.New(), "", none}, {plan.New(), tooLong, none}, {nil, "a", none}, {places{}, "a", none},
		// lists that are no plans: the first one, whatever it is; nothing is in what is no Span
		{cross(), "b", cross()[1]}, {cross(), "c", cross()[2]}, {cross(), "k", cross()[4]}, {cross(), "m", cross()[0]}, {cross(), "q", cross()[5]}, {cross(), "z", cross()[5]}, {cross()[6:], "z", cross()[7]}, {cross()[6:], "a", none}, {cross()[:5], "q", none}, {places{at(1, 1, 0, "k", "b")}, "g", none}, {places{at(1, 1, 0, "", tooLong)}, "g", none},
	} {
		if got, ok := plan.At(c.l, c.key); got != c.want || ok != (c.want != none) {
			t.Errorf("P20.1: At(%#v, %q): %#v, %v", c.l, c.key, got, ok)
		}
	}
	for _, l := range lists() {
		for _, k := range keys() {
			want, wantOK := wantAt(l, k)
			if got, ok := plan.At(l, k); got != want || ok != wantOK {
				t.Fatalf("P20.1: At(%#v, %q): %#v, %v", l, k, got, ok)
			}
		}
	}
}

// P20.1
func TestAbove(t *testing.T) {
	three := places{at(4, 2, 1, "", "d"), at(2, 5, 0, "d", "m"), at(9, 1, 2, "m", "")}
	for _, c := range []struct {
		l    places
		id   int
		want api.Place
	}{
		{three, 4, three[1]}, {three, 2, three[2]}, {three, 9, none}, {three, 3, none}, {three, 0, none}, {three, -1, none}, {three, math.MaxInt, none},
		{plan.New(), 1, none}, {plan.New(), 2, none}, {nil, 1, none}, {places{}, 0, none},
		// lists that are no plans: behind the first one of that ID
		{twins(), 4, twins()[1]}, {twins(), 1, none}, {cross(), 7, cross()[1]}, {cross(), 3, cross()[2]}, {cross(), 5, cross()[4]}, {cross(), -1, cross()[6]}, {cross(), 0, cross()[7]}, {cross(), 6, none},
	} {
		if got, ok := plan.Above(c.l, c.id); got != c.want || ok != (c.want != none) {
			t.Errorf("P20.1: Above(%#v, %d): %#v, %v", c.l, c.id, got, ok)
		}
	}
	for _, l := range lists() {
		for _, id := range ids() {
			want, wantOK := wantAbove(l, id)
			if got, ok := plan.Above(l, id); got != want || ok != wantOK {
				t.Fatalf("P20.1: Above(%#v, %d): %#v, %v", l, id, got, ok)
			}
		}
	}
}

// P20.2
func TestMove(t *testing.T) {
	a, b, c := at(4, 2, 1, "", "d"), at(2, 5, 0, "d", "m"), at(9, 1, 2, "m", "")
	three := places{a, b, c}
	for _, x := range []struct {
		l               places
		id, epoch, node int
		want            places
	}{
		{three, 4, 3, 0, places{at(4, 3, 0, "", "d"), b, c}}, {three, 2, 6, 2, places{a, at(2, 6, 2, "d", "m"), c}}, {three, 9, 2, 1, places{a, b, at(9, 2, 1, "m", "")}},
		{plan.New(), 1, 2, 2, places{at(1, 2, 2, "", "")}}, {three, 4, 2, 1, three}, {three, 4, 1, 1, places{at(4, 1, 1, "", "d"), b, c}},
		// no such one
		{three, 3, 3, 0, three}, {three, 0, 3, 0, three}, {three, -1, 3, 0, three}, {nil, 1, 1, 1, nil}, {places{}, 0, 1, 1, nil},
		// numbers out of bounds
		{three, 2, 0, 3, places{a, at(2, 0, 3, "d", "m"), c}}, {three, 2, math.MinInt, math.MaxInt, places{a, at(2, math.MinInt, math.MaxInt, "d", "m"), c}}, {three, 2, api.MaxEpoch + 1, -1, places{a, at(2, api.MaxEpoch+1, -1, "d", "m"), c}},
		// of several the first one
		{twins(), 4, 7, 1, places{at(4, 7, 1, "", "g"), twins()[1], twins()[2]}}, {places{none, none}, 0, 7, 1, places{at(0, 7, 1, "", ""), none}},
	} {
		if got := plan.Move(x.l, x.id, x.epoch, x.node); !slices.Equal(got, x.want) {
			t.Errorf("P20.2: Move(%#v, %d, %d, %d): %#v", x.l, x.id, x.epoch, x.node, got)
		}
	}
	for _, l := range lists() {
		for _, id := range ids() {
			for _, to := range [][2]int{{1, 0}, {7, 2}, {api.MaxEpoch, 1}, {0, 1}, {1, 3}, {-1, -1}} {
				got := plan.Move(l, id, to[0], to[1])
				if !slices.Equal(got, wantMove(l, id, to[0], to[1])) {
					t.Fatalf("P20.2: Move(%#v, %d, %d): %#v", l, id, to, got)
				}
			}
		}
	}
}

// P20.2
func TestSplit(t *testing.T) {
	a, b, c := at(4, 2, 1, "", "d"), at(2, 5, 0, "d", "m"), at(9, 3, 2, "m", "")
	three := places{a, b, c}
	for _, x := range []struct {
		l      places
		id     int
		key    string
		na, nb int
		want   places
	}{
		{plan.New(), 1, "m", 2, 3, places{at(2, 1, 0, "", "m"), at(3, 1, 0, "m", "")}},
		{three, 4, "b", 10, 11, places{at(10, 1, 1, "", "b"), at(11, 1, 1, "b", "d"), b, c}}, {three, 2, "g", 10, 11, places{a, at(10, 1, 0, "d", "g"), at(11, 1, 0, "g", "m"), c}}, {three, 9, "x", 10, 11, places{a, b, at(10, 1, 2, "m", "x"), at(11, 1, 2, "x", "")}},
		{three, 2, "d\x00", 11, 10, places{a, at(11, 1, 0, "d", "d\x00"), at(10, 1, 0, "d\x00", "m"), c}}, {three, 2, longest, 10, 11, places{a, at(10, 1, 0, "d", longest), at(11, 1, 0, longest, "m"), c}}, {three, 4, "\x00", 10, 11, places{at(10, 1, 1, "", "\x00"), at(11, 1, 1, "\x00", "d"), b, c}},
		// no Cut
		{three, 4, "", 10, 11, three}, {three, 4, "d", 10, 11, three}, {three, 4, "z", 10, 11, three}, {three, 2, "d", 10, 11, three}, {three, 2, "c", 10, 11, three}, {three, 2, "m", 10, 11, three}, {three, 9, "m", 10, 11, three}, {three, 9, "a", 10, 11, three}, {three, 2, "", 10, 11, three}, {three, 2, tooLong, 10, 11, three}, {plan.New(), 1, "", 2, 3, plan.New()},
		{places{at(1, 1, 0, "k", "b")}, 1, "g", 2, 3, places{at(1, 1, 0, "k", "b")}}, {places{at(1, 1, 0, "", tooLong)}, 1, "g", 2, 3, places{at(1, 1, 0, "", tooLong)}},
		// no such one
		{three, 3, "g", 10, 11, three}, {three, 0, "g", 10, 11, three}, {three, -1, "g", 10, 11, three}, {nil, 1, "g", 2, 3, nil}, {places{}, 0, "g", 2, 3, nil},
		// numbers of all sorts
		{three, 2, "g", 2, 2, places{a, at(2, 1, 0, "d", "g"), at(2, 1, 0, "g", "m"), c}}, {three, 2, "g", 0, -7, places{a, at(0, 1, 0, "d", "g"), at(-7, 1, 0, "g", "m"), c}}, {three, 2, "g", 9, 4, places{a, at(9, 1, 0, "d", "g"), at(4, 1, 0, "g", "m"), c}}, {three, 2, "g", math.MinInt, math.MaxInt, places{a, at(math.MinInt, 1, 0, "d", "g"), at(math.MaxInt, 1, 0, "g", "m"), c}},
		{places{at(1, 0, 8, "", "")}, 1, "m", 2, 3, places{at(2, 1, 8, "", "m"), at(3, 1, 8, "m", "")}},
		// of several the first one, also where the other one could be cut
		{twins(), 4, "c", 10, 11, places{at(10, 1, 0, "", "c"), at(11, 1, 0, "c", "g"), twins()[1], twins()[2]}}, {twins(), 4, "k", 10, 11, twins()}, {cross(), 7, "d", 10, 11, cross()},
	} {
		if got := plan.Split(x.l, x.id, x.key, x.na, x.nb); !slices.Equal(got, x.want) {
			t.Errorf("P20.2: Split(%#v, %d, %q, %d, %d): %#v", x.l, x.id, x.key, x.na, x.nb, got)
		}
	}
	eight := row("b", "d", "f", "h", "j", "l", "n")
	if got := plan.Split(eight, 20, "a", 30, 31); len(got) != 9 || plan.Is(got) || !slices.Equal(got, wantSplit(eight, 20, "a", 30, 31)) {
		t.Errorf("P20.2: Split of MaxShards: %#v", got)
	}
	for _, l := range lists() {
		for _, id := range ids() {
			for _, k := range keys() {
				if got := plan.Split(l, id, k, 31, 30); !slices.Equal(got, wantSplit(l, id, k, 31, 30)) {
					t.Fatalf("P20.2: Split(%#v, %d, %q): %#v", l, id, k, got)
				}
			}
		}
	}
}

// P20.2
func TestJoin(t *testing.T) {
	a, b, c := at(4, 2, 1, "", "d"), at(2, 5, 0, "d", "m"), at(9, 3, 2, "m", "")
	three := places{a, b, c}
	for _, x := range []struct {
		l          places
		lo, hi, id int
		want       places
	}{
		{row("m"), 20, 19, 5, places{at(5, 1, 1, "", "")}}, {three, 4, 2, 5, places{at(5, 1, 1, "", "m"), c}}, {three, 2, 9, 5, places{a, at(5, 1, 0, "d", "")}},
		// not behind one another
		{three, 2, 4, 5, three}, {three, 9, 2, 5, three}, {three, 4, 9, 5, three}, {three, 9, 4, 5, three}, {three, 4, 4, 5, three}, {three, 9, 9, 5, three}, {plan.New(), 1, 1, 2, plan.New()},
		// no such ones
		{three, 4, 3, 5, three}, {three, 9, 3, 5, three}, {three, 3, 4, 5, three}, {three, 3, 2, 5, three}, {three, 0, 0, 5, three}, {three, -1, 4, 5, three}, {three, 3, 8, 5, three}, {nil, 1, 2, 3, nil}, {places{}, 0, 0, 3, nil},
		// numbers of all sorts
		{three, 4, 2, 0, places{at(0, 1, 1, "", "m"), c}}, {three, 4, 2, -7, places{at(-7, 1, 1, "", "m"), c}}, {three, 4, 2, 9, places{at(9, 1, 1, "", "m"), c}}, {three, 4, 2, 4, places{at(4, 1, 1, "", "m"), c}}, {three, 4, 2, 2, places{at(2, 1, 1, "", "m"), c}}, {three, 4, 2, math.MaxInt, places{at(math.MaxInt, 1, 1, "", "m"), c}},
		// of several the first one, also where another one is behind
		{twins(), 4, 4, 5, twins()}, {places{a, b, a, c}, 4, 2, 5, places{at(5, 1, 1, "", "m"), a, c}}, {places{b, a, b, c}, 4, 2, 5, places{b, a, b, c}}, {places{b, a, b, c}, 2, 9, 5, places{b, a, b, c}}, {places{a, c, a, b}, 4, 2, 5, places{a, c, a, b}},
	} {
		if got := plan.Join(x.l, x.lo, x.hi, x.id); !slices.Equal(got, x.want) {
			t.Errorf("P20.2: Join(%#v, %d, %d, %d): %#v", x.l, x.lo, x.hi, x.id, got)
		}
	}
	for _, l := range lists() {
		for _, lo := range ids() {
			for _, hi := range ids() {
				if got := plan.Join(l, lo, hi, 30); !slices.Equal(got, wantJoin(l, lo, hi, 30)) {
					t.Fatalf("P20.2: Join(%#v, %d, %d): %#v", l, lo, hi, got)
				}
			}
		}
	}
}

// P20.2: what was split is joined again: as it was, but for its ID and Epoch.
func TestThereAndBack(t *testing.T) {
	for _, l := range rows() {
		for i, p := range l {
			for _, k := range keys() {
				parts := plan.Split(l, p.ID, k, 31, 30)
				if slices.Equal(parts, l) {
					continue
				}
				want := with(l, i, func(p *api.Place) { p.ID, p.Epoch = 32, 1 })
				if got := plan.Join(parts, 31, 30, 32); len(parts) != len(l)+1 || !slices.Equal(got, want) {
					t.Fatalf("P20.2: %#v, split at %q and joined: %#v", l, k, got)
				}
			}
		}
	}
}

// spoil: all of a list, its spare room too.
func spoil(l places) {
	l = l[:cap(l)]
	for i := range l {
		l[i] = spoilt
	}
}

// roomy: a list with spare room behind it, and that room.
func roomy(l places) (places, places) {
	whole := append(slices.Clone(l), at(77, 7, 1, "spare", ""), at(78, 7, 1, "spare", ""))
	return whole[:len(l)], whole
}

// calls: each one with what can be, and with what can't.
func calls() map[string]func(l places) places {
	one := func(p api.Place, _ bool) places { return places{p} }
	return map[string]func(l places) places{
		"Is": func(l places) places {
			if !plan.Is(l) {
				return nil
			}
			return places{none}
		},
		"At":                func(l places) places { return one(plan.At(l, "e")) },
		"Above":             func(l places) places { return one(plan.Above(l, 20)) },
		"Move":              func(l places) places { return plan.Move(l, 19, 9, 0) },
		"Move, none":        func(l places) places { return plan.Move(l, 5, 9, 0) },
		"Split, the first":  func(l places) places { return plan.Split(l, 20, "b", 30, 31) },
		"Split, the last":   func(l places) places { return plan.Split(l, 17, "y", 30, 31) },
		"Split, none":       func(l places) places { return plan.Split(l, 5, "b", 30, 31) },
		"Split, no Cut":     func(l places) places { return plan.Split(l, 20, "z", 30, 31) },
		"Join, the first":   func(l places) places { return plan.Join(l, 20, 19, 30) },
		"Join, the last":    func(l places) places { return plan.Join(l, 18, 17, 30) },
		"Join, none":        func(l places) places { return plan.Join(l, 5, 19, 30) },
		"Join, backward":    func(l places) places { return plan.Join(l, 19, 20, 30) },
		"Move of nothing":   func(l places) places { return plan.Move(l[:0], 20, 9, 0) },
		"Split of nothing":  func(l places) places { return plan.Split(l[:0], 20, "b", 30, 31) },
		"Join of nothing":   func(l places) places { return plan.Join(l[:0], 20, 19, 30) },
		"Join of all there": func(l places) places { return plan.Join(l[2:], 18, 17, 30) },
	}
}

// P20.1, P20.2: what is handed in is neither changed nor kept, and no two answers share memory, their spare room included.
func TestMemory(t *testing.T) {
	for name, call := range calls() {
		l, whole := roomy(row("d", "m", "x"))
		was := slices.Clone(whole)
		first, second := call(l), call(l)
		want := slices.Clone(second)
		if !slices.Equal(first, second) {
			t.Errorf("P20.2: %s: not the same when asked the same: %#v, %#v", name, first, second)
		}
		spoil(first)
		if !slices.Equal(whole, was) {
			t.Errorf("P20.2: %s: what was handed in is changed: %#v", name, whole)
		}
		spoil(whole)
		if !slices.Equal(second, want) {
			t.Errorf("P20.2: %s: what was answered is changed: %#v", name, second)
		}
		third := call(row("d", "m", "x"))
		if !slices.Equal(third, want) {
			t.Errorf("P20.2: %s: another answer behind that: %#v", name, third)
		}
	}
}

// owner: of a key, as it must be by what was done.
type owner struct{ id, epoch, node int }

// store: a plan that goes on, and beside it the owner of each of some keys.
type store struct {
	t      *testing.T
	l      places
	owners map[string]owner
	next   int
}

func newStore(t *testing.T) *store {
	s := &store{t: t, l: plan.New(), owners: map[string]owner{}, next: 2}
	for _, k := range keys() {
		if isKey(k) {
			s.owners[k] = owner{1, 1, 0}
		}
	}
	return s
}

// number: a new one.
func (s *store) number() int {
	s.next++
	return s.next - 1
}

func (s *store) move(key string, node int) {
	o := s.owners[key]
	s.l = plan.Move(s.l, o.id, o.epoch+1, node)
	for k, of := range s.owners {
		if of == o {
			s.owners[k] = owner{o.id, o.epoch + 1, node}
		}
	}
}

func (s *store) split(key string) {
	o := s.owners[key]
	if p, _ := plan.At(s.l, key); p.Span.From == key || len(s.l) == api.MaxShards {
		return
	}
	a, b := s.number(), s.number()
	s.l = plan.Split(s.l, o.id, key, a, b)
	for k, of := range s.owners {
		switch {
		case of != o:
		case k < key:
			s.owners[k] = owner{a, 1, o.node}
		default:
			s.owners[k] = owner{b, 1, o.node}
		}
	}
}

func (s *store) join(key string) {
	o := s.owners[key]
	above, there := plan.Above(s.l, o.id)
	if !there {
		return
	}
	id := s.number()
	s.l = plan.Join(s.l, o.id, above.ID, id)
	for k, of := range s.owners {
		if of == o || of.id == above.ID {
			s.owners[k] = owner{id, 1, o.node}
		}
	}
}

// holds: it is a plan, each key has one place alone, which is its owner's, and from the first one on Above leads through all.
func (s *store) holds() {
	s.t.Helper()
	if !plan.Is(s.l) {
		s.t.Fatalf("P20.3: no plan: %#v", s.l)
	}
	for k, o := range s.owners {
		have := 0
		for _, p := range s.l {
			if isIn(p.Span, k) {
				have++
			}
		}
		p, there := plan.At(s.l, k)
		if have != 1 || !there || !isIn(p.Span, k) || (owner{p.ID, p.Epoch, p.Node}) != o {
			s.t.Fatalf("P20.3: %q is at %#v (%d have it), not at %v", k, p, have, o)
		}
	}
	p, there := s.l[0], true
	for i := range s.l {
		if !there || p != s.l[i] {
			s.t.Fatalf("P20.3: Above: %#v, not %#v", p, s.l[i])
		}
		p, there = plan.Above(s.l, p.ID)
	}
	if there {
		s.t.Fatalf("P20.3: above the last one: %#v", p)
	}
}

// steps: what may come next.
func steps() []func(s *store) {
	return []func(s *store){
		func(s *store) { s.split("m") }, func(s *store) { s.split("d") }, func(s *store) { s.split("x") },
		func(s *store) { s.join("a") }, func(s *store) { s.join("m") },
		func(s *store) { s.move("a", 1) }, func(s *store) { s.move("n", 2) }, func(s *store) { s.move("z", 0) },
	}
}

// P20.3: by all orders of five steps.
func TestEachKeyOnePlace(t *testing.T) {
	all := steps()
	orders := 1
	for range 5 {
		orders *= len(all)
	}
	for order := range orders {
		s := newStore(t)
		for range 5 {
			all[order%len(all)](s)
			order /= len(all)
		}
		s.holds()
	}
}

// P20.3: by long rows of steps, at any keys, up to MaxShards.
func TestPlanGoesOn(t *testing.T) {
	most := 0
	for seed := range 40 {
		dice := rand.New(rand.NewSource(int64(seed)))
		s := newStore(t)
		var good []string
		for k := range s.owners {
			good = append(good, k)
		}
		slices.Sort(good)
		for range 250 {
			k := good[dice.Intn(len(good))]
			switch dice.Intn(4) {
			case 0, 1:
				s.split(k)
			case 2:
				s.join(k)
			default:
				s.move(k, dice.Intn(api.MaxNodes))
			}
			s.holds()
			most = max(most, len(s.l))
		}
	}
	if most != api.MaxShards {
		t.Errorf("P20.3: %d places at most: too few to tell much", most)
	}
}

// P20.1, P20.2: of long lists, which are no plans, each call comes back soon.
func TestLongLists(t *testing.T) {
	most := 500000
	var l places
	for i := range most {
		l = append(l, at(i+1, 1, 0, "k", "m"))
	}
	l = append(l, at(most+1, 1, 1, "m", "p"), at(most+2, 1, 2, "p", ""))
	if plan.Is(l) {
		t.Error("P20.1: Is of a long list")
	}
	if p, _ := plan.At(l, "n"); p != l[most] {
		t.Errorf("P20.1: At in a long list: %#v", p)
	}
	if p, _ := plan.Above(l, most); p != l[most] {
		t.Errorf("P20.1: Above in a long list: %#v", p)
	}
	if got := plan.Move(l, most+1, 2, 0); len(got) != len(l) || got[most] != at(most+1, 2, 0, "m", "p") {
		t.Error("P20.2: Move in a long list")
	}
	if got := plan.Split(l, most+1, "n", 8, 9); len(got) != len(l)+1 || got[most+1] != at(9, 1, 1, "n", "p") {
		t.Error("P20.2: Split in a long list")
	}
	if got := plan.Join(l, most+1, most+2, 8); len(got) != len(l)-1 || got[most] != at(8, 1, 1, "m", "") {
		t.Error("P20.2: Join in a long list")
	}
}
