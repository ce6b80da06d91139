package span_test

import (
	"strings"
	"testing"

	"estuary/api"
	"estuary/span"
)

func sp(from, to string) api.Span { return api.Span{From: from, To: to} }

var (
	longest = strings.Repeat("k", api.MaxKey)
	tooLong = strings.Repeat("k", api.MaxKey+1)
)

// texts: keys and ends of all sorts, wrong ones too.
func texts() []string {
	return []string{"", "\x00", "\x00\x00", "a", "a\x00", "aa", "b", longest, "m", "z", "é", "\xff", strings.Repeat("\xff", api.MaxKey), tooLong}
}

// spans: each of texts as From with each as To, those that are no spans too.
func spans() []api.Span {
	var all []api.Span
	for _, from := range texts() {
		for _, to := range texts() {
			all = append(all, sp(from, to))
		}
	}
	return all
}

// isSpan, isIn: the document's words once more, in another way than the program's.
func isSpan(s api.Span) bool {
	return len(s.From) <= 8 && len(s.To) <= 8 && (len(s.To) == 0 || strings.Compare(s.To, s.From) > 0)
}

func isIn(s api.Span, k string) bool {
	if !isSpan(s) || len(k) < 1 || len(k) > 8 {
		return false
	}
	return strings.Compare(k, s.From) >= 0 && (len(s.To) == 0 || strings.Compare(k, s.To) < 0)
}

// P1.1
func TestIsKey(t *testing.T) {
	for _, c := range []struct {
		k    string
		want bool
	}{
		{"", false}, {"a", true}, {"\x00", true}, {"\xff\xfe", true},
		{longest, true}, {tooLong, false}, {"éééé", true}, {"éééée", false}, {strings.Repeat("k", 1000), false},
	} {
		if got := span.IsKey(c.k); got != c.want {
			t.Errorf("P1.1: IsKey(%q): %v", c.k, got)
		}
	}
}

// P1.1
func TestIs(t *testing.T) {
	for _, c := range []struct {
		s    api.Span
		want bool
	}{
		{sp("", ""), true}, {sp("a", ""), true}, {sp("", "a"), true}, {sp("a", "b"), true},
		{sp("a", "a"), false}, {sp("b", "a"), false}, {sp("a", "a\x00"), true}, {sp("a\x00", "a"), false},
		{sp("", "\x00"), true}, {sp("Z", "a"), true}, {sp("a", "Z"), false}, {sp("z", "\xff"), true},
		{sp(longest, ""), true}, {sp("", longest), true}, {sp(longest, "l"), true}, {sp("a", longest), true},
		{sp(tooLong, ""), false}, {sp("", tooLong), false}, {sp(tooLong, "l"), false}, {sp("a", tooLong), false}, {sp(longest, tooLong), false},
	} {
		if got := span.Is(c.s); got != c.want {
			t.Errorf("P1.1: Is(%q): %v", c.s, got)
		}
	}
	for _, s := range spans() {
		if span.Is(s) != isSpan(s) {
			t.Errorf("P1.1: Is(%q): %v", s, !isSpan(s))
		}
	}
}

// P1.1
func TestHas(t *testing.T) {
	for _, c := range []struct {
		s    api.Span
		k    string
		want bool
	}{
		{sp("", ""), "x", true}, {sp("", ""), "\x00", true}, {sp("", ""), longest, true},
		{sp("", ""), "", false}, {sp("", ""), tooLong, false}, {sp("k", "l"), tooLong, false},
		{sp("b", "d"), "b", true}, {sp("b", "d"), "b\x00", true}, {sp("b", "d"), "c\xff", true},
		{sp("b", "d"), "d", false}, {sp("b", "d"), "d\x00", false}, {sp("b", "d"), "a\xff", false}, {sp("b", "d"), "B", false},
		{sp("b", ""), "\xff", true}, {sp("b", ""), "b", true}, {sp("b", ""), "a", false},
		{sp("", "b"), "a", true}, {sp("", "b"), "b", false}, {sp("", "\x00"), "\x00", false},
		{sp("d", "b"), "c", false}, {sp("b", "b"), "b", false}, {sp("", tooLong), "a", false}, {sp(tooLong, ""), "z", false},
	} {
		if got := span.Has(c.s, c.k); got != c.want {
			t.Errorf("P1.1: Has(%q, %q): %v", c.s, c.k, got)
		}
	}
	for _, s := range spans() {
		for _, k := range texts() {
			if span.Has(s, k) != isIn(s, k) {
				t.Errorf("P1.1: Has(%q, %q): %v", s, k, !isIn(s, k))
			}
		}
	}
}

// P1.2
func TestMeet(t *testing.T) {
	for _, c := range []struct {
		a, b, want api.Span
		ok         bool
	}{
		{sp("", ""), sp("", ""), sp("", ""), true},
		{sp("a", "c"), sp("b", "d"), sp("b", "c"), true},
		{sp("a", "d"), sp("b", "c"), sp("b", "c"), true},
		{sp("b", "c"), sp("", ""), sp("b", "c"), true},
		{sp("b", ""), sp("a", ""), sp("b", ""), true},
		{sp("b", ""), sp("a", "x"), sp("b", "x"), true},
		{sp("", "b"), sp("", "a"), sp("", "a"), true},
		{sp("a", "b"), sp("a", "b"), sp("a", "b"), true},
		{sp("a", "b\x00"), sp("b", "c"), sp("b", "b\x00"), true},
		{sp("", "\x00"), sp("", ""), sp("", "\x00"), true},
		{sp("a", "b"), sp("b", "c"), api.Span{}, false},
		{sp("a", "b"), sp("c", "d"), api.Span{}, false},
		{sp("x", ""), sp("", "b"), api.Span{}, false},
		{sp("c", "b"), sp("", ""), api.Span{}, false},
		{sp("b", "b"), sp("b", "b"), api.Span{}, false},
		{sp(tooLong, ""), sp("", ""), api.Span{}, false},
		{sp("", tooLong), sp("", "b"), api.Span{}, false},
	} {
		for i, pair := range [][2]api.Span{{c.a, c.b}, {c.b, c.a}} {
			if got, ok := span.Meet(pair[0], pair[1]); got != c.want || ok != c.ok {
				t.Errorf("P1.2: Meet(%q, %q), turn %d: %q, %v", pair[0], pair[1], i, got, ok)
			}
		}
	}
}

// P1.2: of all pairs: a key is in what Meet tells just if it is in both, and nothing is told of what isn't Is.
func TestMeetOfAll(t *testing.T) {
	for _, a := range spans() {
		for _, b := range spans() {
			both, ok := span.Meet(a, b)
			if ok && !isSpan(both) || !ok && both != (api.Span{}) || ok && !(isSpan(a) && isSpan(b)) {
				t.Fatalf("P1.2: Meet(%q, %q): %q, %v", a, b, both, ok)
			}
			for _, k := range texts() {
				if (ok && isIn(both, k)) != (isIn(a, k) && isIn(b, k)) {
					t.Fatalf("P1.2: Meet(%q, %q): %q, %v, not right of %q", a, b, both, ok, k)
				}
			}
		}
	}
}

// P1.2
func TestWithin(t *testing.T) {
	for _, c := range []struct {
		a, b api.Span
		want bool
	}{
		{sp("", ""), sp("", ""), true}, {sp("b", "c"), sp("b", "c"), true},
		{sp("b", "c"), sp("", ""), true}, {sp("b", "c"), sp("a", "d"), true},
		{sp("b", "c"), sp("b", "c\x00"), true}, {sp("b\x00", "c"), sp("b", "c"), true},
		{sp("b", ""), sp("a", ""), true}, {sp("", "b"), sp("", ""), true}, {sp("b", "c"), sp("b", ""), true},
		{sp("", ""), sp("b", "c"), false}, {sp("b", "c\x00"), sp("b", "c"), false}, {sp("a", "c"), sp("b", "c"), false},
		{sp("b", ""), sp("b", "c"), false}, {sp("a", ""), sp("b", ""), false}, {sp("", "b"), sp("", "a"), false}, {sp("a", "b"), sp("c", "d"), false},
		{sp("c", "b"), sp("", ""), false}, {sp("b", "c"), sp("d", "a"), false}, {sp("b", "b"), sp("b", "b"), false},
		{sp(tooLong, ""), sp("", ""), false}, {sp("a", "b"), sp("", tooLong), false},
	} {
		if got := span.Within(c.a, c.b); got != c.want {
			t.Errorf("P1.2: Within(%q, %q): %v", c.a, c.b, got)
		}
	}
}

// P1.2: one is within another just if both meet in the whole of it.
func TestWithinOfAll(t *testing.T) {
	for _, a := range spans() {
		for _, b := range spans() {
			both, ok := span.Meet(a, b)
			if want := ok && both == a; span.Within(a, b) != want {
				t.Fatalf("P1.2: Within(%q, %q): %v", a, b, !want)
			}
		}
	}
}

// P1.2
func TestTouch(t *testing.T) {
	for _, c := range []struct {
		a, b api.Span
		want bool
	}{
		{sp("a", "b"), sp("b", "c"), true}, {sp("a", "b"), sp("b", ""), true}, {sp("", "b"), sp("b", ""), true}, {sp("", longest), sp(longest, ""), true},
		{sp("", ""), sp("", ""), false}, {sp("a", ""), sp("", "b"), false}, {sp("a", ""), sp("b", ""), false},
		{sp("a", "b"), sp("c", ""), false}, {sp("a", "c"), sp("b", ""), false}, {sp("b", "c"), sp("a", "b"), false}, {sp("a", "b"), sp("b\x00", ""), false},
		{sp("b", "a"), sp("a", "c"), false}, {sp("a", "b"), sp("b", "a"), false}, {sp("b", "b"), sp("b", "c"), false}, {sp("a", "b"), sp("b", "b"), false},
		{sp("", tooLong), sp(tooLong, ""), false}, {sp(tooLong, "m"), sp("m", ""), false}, {sp("a", "b"), sp("b", tooLong), false},
	} {
		if got := span.Touch(c.a, c.b); got != c.want {
			t.Errorf("P1.2: Touch(%q, %q): %v", c.a, c.b, got)
		}
	}
}

// P1.2
func TestCut(t *testing.T) {
	for _, c := range []struct {
		s      api.Span
		k      string
		lo, hi api.Span
		ok     bool
	}{
		{sp("", ""), "m", sp("", "m"), sp("m", ""), true},
		{sp("", ""), "\x00", sp("", "\x00"), sp("\x00", ""), true},
		{sp("", ""), longest, sp("", longest), sp(longest, ""), true},
		{sp("a", "c"), "b", sp("a", "b"), sp("b", "c"), true},
		{sp("a", "c"), "a\x00", sp("a", "a\x00"), sp("a\x00", "c"), true},
		{sp("a", ""), "z", sp("a", "z"), sp("z", ""), true},
		{sp("", "c"), "b", sp("", "b"), sp("b", "c"), true},
		{sp("a", "c"), "a", api.Span{}, api.Span{}, false},
		{sp("a", "c"), "c", api.Span{}, api.Span{}, false},
		{sp("a", "c"), "d", api.Span{}, api.Span{}, false},
		{sp("b", "c"), "a", api.Span{}, api.Span{}, false},
		{sp("", ""), "", api.Span{}, api.Span{}, false},
		{sp("", ""), tooLong, api.Span{}, api.Span{}, false},
		{sp("c", "a"), "b", api.Span{}, api.Span{}, false},
		{sp("a", tooLong), "b", api.Span{}, api.Span{}, false},
		{sp(tooLong, ""), "z", api.Span{}, api.Span{}, false},
	} {
		lo, hi, ok := span.Cut(c.s, c.k)
		if lo != c.lo || hi != c.hi || ok != c.ok {
			t.Errorf("P1.2: Cut(%q, %q): %q, %q, %v", c.s, c.k, lo, hi, ok)
		}
	}
}

// P1.3: of all that can be cut, each key is in one part, and in no more than one; what can't be cut has no parts.
func TestEachKeyInOnePart(t *testing.T) {
	for _, s := range spans() {
		for _, at := range texts() {
			lo, hi, ok := span.Cut(s, at)
			if want := isIn(s, at) && at != s.From; ok != want {
				t.Fatalf("P1.2: Cut(%q, %q): %v", s, at, ok)
			}
			if !ok {
				if lo != (api.Span{}) || hi != (api.Span{}) {
					t.Errorf("P1.2: Cut(%q, %q): parts beside a false", s, at)
				}
				continue
			}
			if !span.Touch(lo, hi) || !span.Within(lo, s) || !span.Within(hi, s) {
				t.Errorf("P1.3: Cut(%q, %q): %q, %q", s, at, lo, hi)
			}
			for _, k := range texts() {
				below, above := span.Has(lo, k), span.Has(hi, k)
				if below && above || (below || above) != isIn(s, k) || below && k >= at || above && k < at {
					t.Errorf("P1.3: Cut(%q, %q): %q is below: %v, above: %v", s, at, k, below, above)
				}
			}
		}
	}
}
