package chart_test

import (
	"math"
	"math/rand"
	"slices"
	"strings"
	"testing"

	"estuary/api"
	"estuary/chart"
	"estuary/plan"
)

type places = []api.Place

var (
	longest = strings.Repeat("k", api.MaxKey)
	tooLong = strings.Repeat("k", api.MaxKey+1)
	lastKey = strings.Repeat("\xff", api.MaxKey)
)

func sp(from, to string) api.Span { return api.Span{From: from, To: to} }

func at(id, epoch, node int, from, to string) api.Place {
	return api.Place{ID: id, Epoch: epoch, Node: node, Span: sp(from, to)}
}

// row: a good plan, cut at these keys; all its numbers are unlike.
func row(keys ...string) places {
	var l places
	from := ""
	for i, k := range append(slices.Clone(keys), "") {
		l = append(l, at(20-i, 3+i, (i+1)%api.MaxNodes, from, k))
		from = k
	}
	return l
}

// rows: good plans of each length.
func rows() []places {
	cuts := []string{"\x00", "b", "b\x00", "d", longest, "m", "\xff"}
	all := []places{plan.New(), row("m"), row("\xff"), row(lastKey), row("b", "m", "x"), row("d", "g", "m", "x")}
	for n := range len(cuts) + 1 {
		all = append(all, row(cuts[:n]...))
	}
	return all
}

// cross: no plan: IDs twice, Spans that meet, that leave something out, that are none, out of order, numbers out of bounds.
func cross() places {
	return places{at(7, 2, 1, "m", "p"), at(3, 1, 0, "", "c"), at(7, 9, 2, "b", "k"), at(5, 0, 4, "k", "b"), at(3, 8, -1, "k", "m"), at(-1, 1, 1, "", ""), at(0, 5, 0, "", tooLong), at(6, 1, 2, "x", "")}
}

// odd: no plan: numbers that no node, shard or epoch has.
func odd() places {
	return places{at(math.MinInt, math.MaxInt, math.MaxInt, "", "g"), at(0, 0, math.MinInt, "g", "m"), at(api.MaxRev+1, api.MaxEpoch+1, api.MaxNodes, "m", "")}
}

// lists: plans and what is none.
func lists() []places {
	backward := row("d", "m", "x")
	slices.Reverse(backward)
	all := append(rows(), nil, places{}, cross(), odd(), backward, places{{}}, places{{}, {}}, row("d", "m", "x")[1:3], slices.Concat(row("m"), row("m")), slices.Concat(cross(), cross()), row("b", "c", "d", "e", "f", "g", "h", "i", "j", "k", "l"))
	for _, a := range cross() {
		for _, b := range slices.Concat(cross(), odd()) {
			all = append(all, places{a, b}, places{b, a, b})
		}
	}
	return all
}

func keys() []string {
	return []string{"", "\x00", "\x00\x00", "a", "b", "b\x00", "c", "d", "g", "k", longest, tooLong, "kl", "m", "n", "p", "x", "z", "\xff", lastKey}
}

// spans: each key and each text that is none, as From and as To.
func spans() []api.Span {
	var all []api.Span
	for _, from := range keys() {
		for _, to := range keys() {
			all = append(all, sp(from, to))
		}
	}
	return all
}

// isSpan, isKey, isIn: the document's words once more, in another way than the program's.
func isSpan(s api.Span) bool {
	return len(s.From) <= 8 && len(s.To) <= 8 && (len(s.To) == 0 || strings.Compare(s.To, s.From) == 1)
}

func isKey(k string) bool { return len(k) >= 1 && len(k) <= 8 }

func isIn(s api.Span, k string) bool {
	return isSpan(s) && isKey(k) && strings.Compare(k, s.From) != -1 && (len(s.To) == 0 || strings.Compare(k, s.To) == -1)
}

// wantNode: likewise, from the last one on.
func wantNode(l places, key string) (int, bool) {
	node, ok := 0, false
	for _, p := range slices.Backward(l) {
		if isIn(p.Span, key) {
			node, ok = p.Node, true
		}
	}
	return node, ok
}

// end: where a span ends, as a text above all keys, if that is open.
func end(s api.Span) string {
	if s.To == "" {
		return strings.Repeat("\xff", 99)
	}
	return s.To
}

// wantParts: likewise, by both ends in order.
func wantParts(l places, s api.Span) places {
	var parts places
	for _, p := range l {
		froms, ends := []string{p.Span.From, s.From}, []string{end(p.Span), end(s)}
		slices.Sort(froms)
		slices.Sort(ends)
		if !isSpan(p.Span) || !isSpan(s) || froms[1] >= ends[0] {
			continue
		}
		to := ends[0]
		if len(to) == 99 {
			to = ""
		}
		parts = append(parts, at(p.ID, p.Epoch, p.Node, froms[1], to))
	}
	return parts
}

// P22.1
func TestNode(t *testing.T) {
	three := places{at(4, 2, 1, "", "d"), at(2, 5, 0, "d", "m"), at(9, 1, 2, "m", "")}
	for _, c := range []struct {
		l    places
		key  string
		node int
		ok   bool
	}{
		{three, "\x00", 1, true}, {three, "a", 1, true}, {three, "c\xff", 1, true}, {three, "d", 0, true}, {three, "d\x00", 0, true}, {three, longest, 0, true}, {three, "lzzz", 0, true}, {three, "m", 2, true}, {three, "\xff", 2, true}, {three, lastKey, 2, true}, {plan.New(), "x", 0, true},
		// what is no key, and where it isn't
		{three, "", 0, false}, {three, tooLong, 0, false}, {plan.New(), "", 0, false}, {plan.New(), tooLong, 0, false}, {nil, "a", 0, false}, {places{}, "a", 0, false}, {three[1:2], "c", 0, false}, {three[1:2], "m", 0, false}, {three[:1], "d", 0, false}, {three[2:], "l", 0, false},
		// lists that are no plans: the first one with it; a Span that is none has nothing
		{cross(), "a", 0, true}, {cross(), "b", 0, true}, {cross(), "c", 2, true}, {cross(), "k", -1, true}, {cross(), "n", 1, true}, {cross(), "p", 1, true}, {cross(), "z", 1, true}, {cross()[3:4], "g", 0, false}, {cross()[6:7], "g", 0, false},
		{odd(), "a", math.MaxInt, true}, {odd(), "g", math.MinInt, true}, {odd(), "m", api.MaxNodes, true}, {places{{Node: 2}}, "a", 2, true},
	} {
		if node, ok := chart.Node(c.l, c.key); node != c.node || ok != c.ok {
			t.Errorf("P22.1: Node(%#v, %q): %d, %v", c.l, c.key, node, ok)
		}
	}
	for _, l := range lists() {
		for _, k := range keys() {
			node, ok := chart.Node(l, k)
			if want, wantOK := wantNode(l, k); node != want || ok != wantOK {
				t.Fatalf("P22.1: Node(%#v, %q): %d, %v", l, k, node, ok)
			}
			if p, there := plan.At(l, k); node != p.Node || ok != there {
				t.Fatalf("P22.1: Node(%#v, %q): %d, %v; At: %#v, %v", l, k, node, ok, p, there)
			}
		}
	}
}

// P22.1
func TestParts(t *testing.T) {
	a, b, c := at(4, 2, 1, "", "d"), at(2, 5, 0, "d", "m"), at(9, 1, 2, "m", "")
	three := places{a, b, c}
	for _, x := range []struct {
		l    places
		s    api.Span
		want places
	}{
		{three, sp("", ""), three}, {plan.New(), sp("", ""), plan.New()}, {plan.New(), sp("b", "g"), places{at(1, 1, 0, "b", "g")}}, {plan.New(), sp(longest, lastKey), places{at(1, 1, 0, longest, lastKey)}},
		// cut below, above, on both sides, not at all
		{three, sp("b", ""), places{at(4, 2, 1, "b", "d"), b, c}}, {three, sp("", "x"), places{a, b, at(9, 1, 2, "m", "x")}}, {three, sp("b", "x"), places{at(4, 2, 1, "b", "d"), b, at(9, 1, 2, "m", "x")}}, {three, sp("g", "x"), places{at(2, 5, 0, "g", "m"), at(9, 1, 2, "m", "x")}}, {three, sp("b", "g"), places{at(4, 2, 1, "b", "d"), at(2, 5, 0, "d", "g")}},
		{three, sp("e", "g"), places{at(2, 5, 0, "e", "g")}}, {three, sp("a", "c"), places{at(4, 2, 1, "a", "c")}}, {three, sp("n", "p"), places{at(9, 1, 2, "n", "p")}}, {three, sp("n", ""), places{at(9, 1, 2, "n", "")}}, {three, sp("", "c"), places{at(4, 2, 1, "", "c")}},
		// at the edges: what touches doesn't meet
		{three, sp("d", "m"), places{b}}, {three, sp("", "d"), places{a}}, {three, sp("m", ""), places{c}}, {three, sp("", "m"), places{a, b}}, {three, sp("d", ""), places{b, c}}, {three, sp("", "d\x00"), places{a, at(2, 5, 0, "d", "d\x00")}}, {three, sp("c\xff", "d"), places{at(4, 2, 1, "c\xff", "d")}}, {three, sp("c\xff", "m\x00"), places{at(4, 2, 1, "c\xff", "d"), b, at(9, 1, 2, "m", "m\x00")}},
		{three[1:2], sp("", "d"), nil}, {three[1:2], sp("m", ""), nil}, {three[1:2], sp("", "c"), nil}, {three[1:2], sp("n", ""), nil}, {three[1:2], sp("", ""), places{b}}, {places{a, c}, sp("d", "m"), nil}, {places{a, c}, sp("", ""), places{a, c}},
		// no key is in it, but a span it is
		{plan.New(), sp("", "\x00"), places{at(1, 1, 0, "", "\x00")}}, {row("\x00"), sp("", ""), row("\x00")}, {three, sp(lastKey, ""), places{at(9, 1, 2, lastKey, "")}},
		// what is no span, and no list
		{three, sp("m", "d"), nil}, {three, sp("g", "g"), nil}, {three, sp(tooLong, ""), nil}, {three, sp("", tooLong), nil}, {three, sp("a", tooLong), nil}, {three, sp(tooLong, "z"), nil}, {plan.New(), sp("b", "a"), nil}, {plan.New(), sp("", lastKey+"\xff"), nil}, {nil, sp("", ""), nil}, {places{}, sp("", ""), nil}, {places{}, sp("b", "a"), nil},
		// lists that are no plans: each one that meets, in the order of the list; a Span that is none meets nothing
		{places{c, a, b}, sp("", ""), places{c, a, b}}, {places{c, b, a}, sp("b", "x"), places{at(9, 1, 2, "m", "x"), b, at(4, 2, 1, "b", "d")}}, {places{b, b}, sp("g", ""), places{at(2, 5, 0, "g", "m"), at(2, 5, 0, "g", "m")}},
		{cross(), sp("b", "l"), places{at(3, 1, 0, "b", "c"), at(7, 9, 2, "b", "k"), at(3, 8, -1, "k", "l"), at(-1, 1, 1, "b", "l")}}, {cross(), sp("", ""), slices.Concat(cross()[:3], cross()[4:6], cross()[7:])}, {cross()[3:4], sp("", ""), nil}, {cross()[6:7], sp("", "a"), nil},
		{odd(), sp("", ""), odd()}, {odd(), sp("b", "l"), places{at(math.MinInt, math.MaxInt, math.MaxInt, "b", "g"), at(0, 0, math.MinInt, "g", "l")}}, {places{{}}, sp("", ""), places{{}}}, {places{{}}, sp("a", "b"), places{at(0, 0, 0, "a", "b")}},
	} {
		if got := chart.Parts(x.l, x.s); !slices.Equal(got, x.want) {
			t.Errorf("P22.1: Parts(%#v, %#v): %#v", x.l, x.s, got)
		}
	}
	for _, l := range lists() {
		for _, s := range spans() {
			if got := chart.Parts(l, s); !slices.Equal(got, wantParts(l, s)) {
				t.Fatalf("P22.1: Parts(%#v, %#v): %#v", l, s, got)
			}
		}
	}
}

// spoil: all of a list, its spare room too; no answer has what is put there.
func spoil(l places) {
	l = l[:cap(l)]
	for i := range l {
		l[i] = at(-9, -9, -9, "spoilt", "spoilt")
	}
}

// P22.1: what is handed in is neither changed nor kept, and no two answers share memory, their spare room included.
func TestMemory(t *testing.T) {
	good := row("d", "m", "x")
	for _, s := range []api.Span{sp("", ""), sp("b", ""), sp("", "z"), sp("e", "g"), sp("d", "m"), sp("b", "n"), sp("", "\x00"), sp("z", "a")} {
		for n := range len(good) + 1 {
			whole := append(slices.Clone(good[:n]), at(77, 7, 1, "", ""), at(78, 7, 1, "", ""))
			was, l := slices.Clone(whole), whole[:n]
			first, second := chart.Parts(l, s), chart.Parts(l, s)
			want := slices.Clone(second)
			if !slices.Equal(first, second) {
				t.Errorf("P22.1: Parts of %#v: not the same when asked the same: %#v, %#v", s, first, second)
			}
			spoil(first)
			if !slices.Equal(whole, was) {
				t.Errorf("P22.1: Parts of %#v: what was handed in is changed: %#v", s, whole)
			}
			node, ok := chart.Node(l, "e")
			if !slices.Equal(whole, was) {
				t.Errorf("P22.1: Node: what was handed in is changed: %#v", whole)
			}
			spoil(whole)
			if !slices.Equal(second, want) {
				t.Errorf("P22.1: Parts of %#v: what was answered is changed: %#v", s, second)
			}
			third := chart.Parts(good[:n], s)
			again, okAgain := chart.Node(good[:n], "e")
			if !slices.Equal(third, want) || node != again || ok != okAgain {
				t.Errorf("P22.1: of %#v behind that: %#v, %d, %v", s, third, again, okAgain)
			}
		}
	}
}

// whole: of a good plan the parts are all of s, in order, each one within its place; of what isn't a span there is none.
func whole(t *testing.T, l places, s api.Span) {
	t.Helper()
	parts := chart.Parts(l, s)
	if !isSpan(s) {
		if len(parts) != 0 {
			t.Fatalf("P22.2: of %#v, which is no span: %#v", s, parts)
		}
		return
	}
	if len(parts) == 0 || parts[0].Span.From != s.From || parts[len(parts)-1].Span.To != s.To {
		t.Fatalf("P22.2: %#v of %#v: %#v", s, l, parts)
	}
	for i, p := range parts {
		if !isSpan(p.Span) || i > 0 && (p.Span.From == "" || p.Span.From != parts[i-1].Span.To) {
			t.Fatalf("P22.2: %#v of %#v: %#v", s, l, parts)
		}
	}
	for _, k := range keys() {
		holds(t, l, s, parts, k)
	}
}

// holds: a key of s is in one part, which has the numbers of its place, at the node that is asked for it; another one in none.
func holds(t *testing.T, l places, s api.Span, parts places, k string) {
	t.Helper()
	var have places
	for _, p := range parts {
		if isIn(p.Span, k) {
			have = append(have, p)
		}
	}
	if !isIn(s, k) {
		if len(have) != 0 {
			t.Fatalf("P22.2: %q isn't in %#v, but in %#v", k, s, have)
		}
		return
	}
	p, _ := plan.At(l, k)
	node, ok := chart.Node(l, k)
	if !ok || len(have) != 1 || have[0].Node != node || have[0].ID != p.ID || have[0].Epoch != p.Epoch {
		t.Fatalf("P22.2: %q of %#v: %#v; its place is %#v, its node %d, %v", k, s, have, p, node, ok)
	}
}

// P22.2
func TestAllIsAsked(t *testing.T) {
	for _, l := range rows() {
		for _, s := range spans() {
			whole(t, l, s)
		}
	}
}

// P22.2: of plans as they come of long rows of splits, joins and moves, up to MaxShards.
func TestPlansGoOn(t *testing.T) {
	most := 0
	for seed := range 20 {
		dice := rand.New(rand.NewSource(int64(seed)))
		l := plan.New()
		for step := range 100 {
			key := keys()[dice.Intn(len(keys()))]
			p, _ := plan.At(l, key)
			above, _ := plan.Above(l, p.ID)
			switch {
			case dice.Intn(4) == 0:
				l = plan.Join(l, p.ID, above.ID, 2+2*step)
			case dice.Intn(3) == 0:
				l = plan.Move(l, p.ID, p.Epoch+1, dice.Intn(api.MaxNodes))
			case len(l) < api.MaxShards:
				l = plan.Split(l, p.ID, key, 2+2*step, 3+2*step)
			}
			most = max(most, len(l))
			for range 10 {
				whole(t, l, spans()[dice.Intn(len(spans()))])
			}
		}
	}
	if most != api.MaxShards {
		t.Errorf("P22.2: %d places at most: too few to tell much", most)
	}
}

// P22.1: of long lists, which are no plans, each call comes back soon.
func TestLongLists(t *testing.T) {
	most := 500000
	var l places
	for i := range most {
		l = append(l, at(i+1, 1, 0, "k", "m"))
	}
	l = append(l, at(most+1, 1, 1, "m", "p"), at(most+2, 1, 2, "p", ""))
	if node, ok := chart.Node(l, "z"); node != 2 || !ok {
		t.Errorf("P22.1: Node of a long list: %d, %v", node, ok)
	}
	if got := chart.Parts(l, sp("n", "z")); !slices.Equal(got, places{at(most+1, 1, 1, "n", "p"), at(most+2, 1, 2, "p", "z")}) {
		t.Errorf("P22.1: %d Parts of a long list", len(got))
	}
	if got := chart.Parts(l, sp("", "")); !slices.Equal(got, l) {
		t.Errorf("P22.1: %d Parts of all of a long list", len(got))
	}
}
