package token_test

import (
	"maps"
	"slices"
	"strings"
	"testing"

	"estuary/api"
	"estuary/span"
	"estuary/token"
)

type seen = []api.Seen

func at(key string, version int) api.Seen { return api.Seen{Key: key, Version: version} }

func sp(from, to string) api.Span { return api.Span{From: from, To: to} }

var (
	longest = strings.Repeat("k", api.MaxKey)
	tooLong = strings.Repeat("k", api.MaxKey+1)
)

// some: good and wrong entries.
func some() seen {
	var all seen
	for _, k := range []string{"", "\x00", "a", "a\x00", longest, tooLong, "\xff"} {
		for _, v := range []int{-1, 0, 1, api.MaxRev, api.MaxRev + 1} {
			all = append(all, at(k, v))
		}
	}
	return all
}

// lists: of none, one and two of some, in any order, and of some of three.
func lists() []seen {
	all := []seen{nil, {}}
	for _, x := range some() {
		all = append(all, seen{x})
		for _, y := range some() {
			all = append(all, seen{x, y})
		}
	}
	return append(all,
		seen{at("a", 1), at("b", 2), at("c", 3)}, seen{at("a", 1), at("c", 3), at("b", 2)}, seen{at("b", 2), at("a", 1), at("c", 3)},
		seen{at("a", 1), at("b", 2), at("a", 3)}, seen{at("a", 1), at("b", 2), at("b", 2)}, seen{at("a", 1), at("b", 2), at("c", -1)})
}

// tokens: all that are good of these keys, each not there or with one of these versions.
func tokens() []seen {
	all := []seen{nil}
	for _, k := range []string{"a", "a\x00", "b", longest} {
		for _, l := range all {
			for _, v := range []int{0, 2, api.MaxRev} {
				all = append(all, append(slices.Clone(l), at(k, v)))
			}
		}
	}
	return all
}

// isToken: the document's words once more, in another way than the program's.
func isToken(l seen) bool {
	for i, x := range l {
		if len(x.Key) < 1 || len(x.Key) > 8 || x.Version < 0 || x.Version > 1000000000000 {
			return false
		}
		if i > 0 && strings.Compare(l[i-1].Key, x.Key) != -1 {
			return false
		}
	}
	return true
}

// sorted: what a map of versions is as a list.
func sorted(versions map[string]int) seen {
	var l seen
	for _, k := range slices.Sorted(maps.Keys(versions)) {
		l = append(l, at(k, versions[k]))
	}
	return l
}

func versions(l seen) map[string]int {
	m := map[string]int{}
	for _, x := range l {
		m[x.Key] = x.Version
	}
	return m
}

// P2.1
func TestIs(t *testing.T) {
	for _, c := range []struct {
		l    seen
		want bool
	}{
		{nil, true}, {seen{}, true}, {seen{at("a", 0)}, true}, {seen{at("a", 1), at("b", 0)}, true},
		{seen{at("a", 3), at("b", 2), at("c", 1)}, true}, {seen{at("a", 1), at("a\x00", 1), at("aa", 1)}, true},
		{seen{at("Z", 1), at("a", 1), at("\xff", 1)}, true}, {seen{at("\x00", 1)}, true},
		{seen{at(longest, 1)}, true}, {seen{at(tooLong, 1)}, false}, {seen{at("", 1)}, false}, {seen{at("", 1), at("a", 1)}, false},
		{seen{at("a", api.MaxRev)}, true}, {seen{at("a", api.MaxRev+1)}, false}, {seen{at("a", -1)}, false},
		{seen{at("a", 1), at("b", -1)}, false}, {seen{at("a", 1), at("b", api.MaxRev+1)}, false}, {seen{at("a", 1), at(tooLong, 1)}, false},
		{seen{at("a", 1), at("a", 1)}, false}, {seen{at("a", 1), at("a", 2)}, false}, {seen{at("b", 1), at("a", 1)}, false},
		{seen{at("a", 1), at("c", 1), at("b", 1)}, false}, {seen{at("a", 1), at("b", 1), at("b", 1)}, false}, {seen{at("a", 1), at("Z", 1)}, false},
	} {
		if got := token.Is(c.l); got != c.want {
			t.Errorf("P2.1: Is(%#v): %v", c.l, got)
		}
	}
	for _, l := range lists() {
		if token.Is(l) != isToken(l) {
			t.Errorf("P2.1: Is(%#v): %v", l, !isToken(l))
		}
	}
	for _, l := range tokens() {
		if !token.Is(l) {
			t.Errorf("P2.1: Is(%#v): false", l)
		}
	}
}

// P2.1: of any list, also of one that isn't Is, and of any text.
func TestOf(t *testing.T) {
	for _, c := range []struct {
		l    seen
		k    string
		want int
	}{
		{nil, "a", 0}, {nil, "", 0}, {seen{at("a", 5)}, "a", 5}, {seen{at("a", 5)}, "b", 0}, {seen{at("a", 5)}, "", 0}, {seen{at("a", 5)}, "a\x00", 0},
		{seen{at("a", 5), at("b", 6), at("c", 7)}, "b", 6}, {seen{at("a", 5), at("b", 6), at("c", 7)}, "c", 7},
		{seen{at("a", 0)}, "a", 0}, {seen{at("a", api.MaxRev)}, "a", api.MaxRev}, {seen{at(longest, 3)}, longest, 3}, {seen{at(longest, 3)}, longest[1:], 0},
		{seen{at("a", 5), at("a", 6)}, "a", 5}, {seen{at("a", 6), at("a", 5)}, "a", 6}, {seen{at("a", 0), at("a", 5)}, "a", 0},
		{seen{at("c", 7), at("b", 6), at("a", 5)}, "c", 7}, {seen{at("c", 7), at("b", 6), at("a", 5)}, "a", 5}, {seen{at("b", 1), at("a", 2), at("b", 3)}, "b", 1},
		{seen{at("", 4)}, "", 4}, {seen{at(tooLong, 4)}, tooLong, 4}, {seen{at("a", -4)}, "a", -4}, {seen{at("a", api.MaxRev+1)}, "a", api.MaxRev + 1},
	} {
		if got := token.Of(c.l, c.k); got != c.want {
			t.Errorf("P2.1: Of(%#v, %#v): %d", c.l, c.k, got)
		}
	}
}

// P2.1
func TestWith(t *testing.T) {
	three := seen{at("b", 1), at("d", 2), at("f", 3)}
	for _, c := range []struct {
		l    seen
		x    api.Seen
		want seen
	}{
		{nil, at("a", 1), seen{at("a", 1)}}, {seen{}, at("a", 0), seen{at("a", 0)}},
		{three, at("b", 9), seen{at("b", 9), at("d", 2), at("f", 3)}},
		{three, at("d", 9), seen{at("b", 1), at("d", 9), at("f", 3)}},
		{three, at("f", 9), seen{at("b", 1), at("d", 2), at("f", 9)}},
		{three, at("d", 0), seen{at("b", 1), at("d", 0), at("f", 3)}},
		{three, at("d", 2), three},
		{three, at("a", 9), seen{at("a", 9), at("b", 1), at("d", 2), at("f", 3)}},
		{three, at("c", 9), seen{at("b", 1), at("c", 9), at("d", 2), at("f", 3)}},
		{three, at("d\x00", 9), seen{at("b", 1), at("d", 2), at("d\x00", 9), at("f", 3)}},
		{three, at("\xff", 9), seen{at("b", 1), at("d", 2), at("f", 3), at("\xff", 9)}},
		{three, at(longest, api.MaxRev), seen{at("b", 1), at("d", 2), at("f", 3), at(longest, api.MaxRev)}},
		{seen{at("b", 1), at("a", 1)}, at("c", 1), nil}, {seen{at("a", 1), at("a", 1)}, at("a", 1), nil}, {seen{at("", 1)}, at("a", 1), nil},
		{seen{at(tooLong, 1)}, at("a", 1), nil}, {seen{at("a", -1)}, at("a", 1), nil}, {seen{at("a", api.MaxRev+1)}, at("a", 1), nil},
	} {
		if got := token.With(c.l, c.x); !slices.Equal(got, c.want) {
			t.Errorf("P2.1: With(%#v, %#v): %#v", c.l, c.x, got)
		}
	}
}

// P2.1: only of l it is asked to be Is, so whatever x is, it is there in its place.
func TestWithOfAll(t *testing.T) {
	for _, x := range some() {
		for _, l := range lists() {
			if got := token.With(l, x); !isToken(l) && len(got) != 0 {
				t.Fatalf("P2.1: With(%#v, %#v): %#v", l, x, got)
			}
		}
		for _, l := range tokens() {
			want := versions(l)
			want[x.Key] = x.Version
			if got := token.With(l, x); !slices.Equal(got, sorted(want)) {
				t.Fatalf("P2.1: With(%#v, %#v): %#v", l, x, got)
			}
		}
	}
}

// P2.1
func TestIn(t *testing.T) {
	four := seen{at("a", 1), at("b", 2), at("c", 0), at("d", 4)}
	for _, c := range []struct {
		l    seen
		s    api.Span
		want seen
	}{
		{nil, sp("", ""), nil}, {four, sp("", ""), four}, {four, sp("b", "d"), seen{at("b", 2), at("c", 0)}},
		{four, sp("b\x00", ""), seen{at("c", 0), at("d", 4)}}, {four, sp("", "b"), seen{at("a", 1)}}, {four, sp("", "a"), nil}, {four, sp("e", ""), nil},
		{four, sp("b", "b\x00"), seen{at("b", 2)}}, {four, sp("", longest), four},
		{four, sp("d", "b"), nil}, {four, sp("b", "b"), nil}, {four, sp("", tooLong), nil}, {four, sp(tooLong, ""), nil},
		{seen{at("d", 4), at("a", 1), at("b", 2), at("a", 7)}, sp("", "c"), seen{at("a", 1), at("b", 2), at("a", 7)}},
		{seen{at("", 1), at(tooLong, 2), at(longest, 3)}, sp("", ""), seen{at(longest, 3)}},
		{seen{at("a", -1), at("b", api.MaxRev+1)}, sp("", ""), seen{at("a", -1), at("b", api.MaxRev+1)}},
	} {
		if got := token.In(c.l, c.s); !slices.Equal(got, c.want) {
			t.Errorf("P2.1: In(%#v, %#v): %#v", c.l, c.s, got)
		}
	}
	for _, l := range lists() {
		for _, s := range []api.Span{sp("", ""), sp("a", ""), sp("", "a\x00"), sp("a", longest), sp("b", "a")} {
			var want seen
			for _, x := range l {
				if span.Has(s, x.Key) {
					want = append(want, x)
				}
			}
			if got := token.In(l, s); !slices.Equal(got, want) {
				t.Fatalf("P2.1: In(%#v, %#v): %#v", l, s, got)
			}
		}
	}
}

// P2.1
func TestBest(t *testing.T) {
	for _, c := range []struct{ a, b, want seen }{
		{nil, nil, nil}, {seen{}, nil, nil}, {seen{at("a", 1)}, nil, seen{at("a", 1)}}, {seen{at("a", 0)}, nil, seen{at("a", 0)}},
		{seen{at("a", 1)}, seen{at("a", 2)}, seen{at("a", 2)}}, {seen{at("a", 2)}, seen{at("a", 2)}, seen{at("a", 2)}},
		{seen{at("a", 0)}, seen{at("a", api.MaxRev)}, seen{at("a", api.MaxRev)}},
		{seen{at("a", 1)}, seen{at("b", 2)}, seen{at("a", 1), at("b", 2)}},
		{seen{at("a", 1), at("c", 3)}, seen{at("b", 2), at("d", 0)}, seen{at("a", 1), at("b", 2), at("c", 3), at("d", 0)}},
		{seen{at("a", 1), at("b", 5), at("c", 1)}, seen{at("b", 2), at("c", 7)}, seen{at("a", 1), at("b", 5), at("c", 7)}},
		{seen{at("a", 1), at("b", 5)}, seen{at("a", 2), at("b", 4)}, seen{at("a", 2), at("b", 5)}},
		{seen{at("b", 1), at("a", 1)}, seen{at("c", 1)}, nil}, {seen{at("b", 1), at("a", 1)}, nil, nil}, {seen{at("a", 1), at("a", 2)}, seen{at("a", 3)}, nil},
		{seen{at("", 1)}, seen{at("c", 1)}, nil}, {seen{at("a", -1)}, seen{at("a", 1)}, nil}, {seen{at("a", api.MaxRev+1)}, seen{at("a", 1)}, nil}, {seen{at(tooLong, 1)}, nil, nil},
	} {
		for i, pair := range [][2]seen{{c.a, c.b}, {c.b, c.a}} {
			if got := token.Best(pair[0], pair[1]); !slices.Equal(got, c.want) {
				t.Errorf("P2.1: Best(%#v, %#v), turn %d: %#v", pair[0], pair[1], i, got)
			}
		}
	}
}

// P2.1: of all pairs of good ones, and of each wrong one beside a good one.
func TestBestOfAll(t *testing.T) {
	for _, a := range tokens() {
		for _, b := range tokens() {
			want := versions(a)
			for _, y := range b {
				want[y.Key] = max(want[y.Key], y.Version)
			}
			if got := token.Best(a, b); !slices.Equal(got, sorted(want)) {
				t.Fatalf("P2.1: Best(%#v, %#v): %#v", a, b, got)
			}
		}
	}
	good := seen{at("a", 1), at("b", 2)}
	for _, l := range lists() {
		if !isToken(l) && (len(token.Best(l, good)) != 0 || len(token.Best(good, l)) != 0) {
			t.Fatalf("P2.1: Best of %#v tells something", l)
		}
	}
}

// roomy: a list with spare room behind it, and that room.
func roomy(l ...api.Seen) (seen, seen) {
	whole := append(slices.Clone(l), at("spare", 7), at("spare", 8))
	return whole[:len(l)], whole
}

// P2.1: what is handed in is neither changed nor kept, and no two answers share memory, their spare room included.
func TestMemory(t *testing.T) {
	for name, call := range map[string]func(a, b seen) seen{
		"With, of a new key":    func(a, _ seen) seen { return token.With(a, at("d", 9)) },
		"With, of a key there":  func(a, _ seen) seen { return token.With(a, at("c", 9)) },
		"With, of the last key": func(a, _ seen) seen { return token.With(a, at("e", 9)) },
		"With, of one above":    func(a, _ seen) seen { return token.With(a, at("z", 9)) },
		"With, of none":         func(a, _ seen) seen { return token.With(a[:0], at("z", 9)) },
		"In, all":               func(a, _ seen) seen { return token.In(a, sp("", "")) },
		"In, the first ones":    func(a, _ seen) seen { return token.In(a, sp("", "e")) },
		"In, none":              func(a, _ seen) seen { return token.In(a, sp("z", "")) },
		"Best":                  func(a, b seen) seen { return token.Best(a, b) },
		"Best, of one":          func(a, _ seen) seen { return token.Best(a, nil) },
		"Best, of the other":    func(a, _ seen) seen { return token.Best(nil, a) },
		"Best, of itself":       func(a, _ seen) seen { return token.Best(a, a) },
		"Best, of none":         func(a, b seen) seen { return token.Best(a[:0], b[:0]) },
	} {
		a, wholeA := roomy(at("a", 1), at("c", 3), at("e", 5))
		b, wholeB := roomy(at("b", 2), at("c", 4))
		wasA, wasB := slices.Clone(wholeA), slices.Clone(wholeB)
		first, second := call(a, b), call(a, b)
		was := slices.Clone(second)
		spoil(first)
		if !slices.Equal(wholeA, wasA) || !slices.Equal(wholeB, wasB) {
			t.Errorf("P2.1: %s: what was handed in is changed: %#v, %#v", name, wholeA, wholeB)
		}
		spoil(wholeA)
		spoil(wholeB)
		if !slices.Equal(second, was) {
			t.Errorf("P2.1: %s: what was answered is changed: %#v", name, second)
		}
	}
}

// spoil: all of a list, the spare room too.
func spoil(l seen) {
	l = l[:cap(l)]
	for i := range l {
		l[i] = at("spoilt", -9)
	}
}

// P2.2: a watch that takes the very next version of each key, again and again told what it has had, misses none and has none twice, and its token says so.
func TestWatchGoesOn(t *testing.T) {
	events := seen{at("m", 1), at("a", 1), at("m", 2), at("z", 1), at("a", 2), at("m", 3), at("b", 1), at("a", 3)}
	for stop := range len(events) + 1 {
		var l, told seen
		for _, end := range []int{stop, stop, len(events)} {
			for _, e := range events[:end] {
				if e.Version == token.Of(l, e.Key)+1 {
					l, told = token.With(l, e), append(told, e)
				}
			}
			if end == stop && !slices.Equal(told, events[:stop]) {
				t.Fatalf("P2.2: stopped at %d: told %#v", stop, told)
			}
		}
		if want := (seen{at("a", 3), at("b", 1), at("m", 3), at("z", 1)}); !slices.Equal(told, events) || !slices.Equal(l, want) || !token.Is(l) {
			t.Errorf("P2.2: stopped at %d: told %#v, token %#v", stop, told, l)
		}
	}
}

// P2.2: wherever a span is cut, the token's parts are of its parts, and both are the token again.
func TestPartsAreTheWhole(t *testing.T) {
	for _, l := range tokens() {
		for _, k := range []string{"\x00", "a", "a\x00", "aa", "b", "j", longest, "l"} {
			lo, hi, ok := span.Cut(sp("", ""), k)
			if !ok {
				t.Fatalf("no cut at %#v", k)
			}
			below, above := token.In(l, lo), token.In(l, hi)
			if !token.Is(below) || !token.Is(above) || len(below)+len(above) != len(l) {
				t.Errorf("P2.2: %#v at %#v: %#v, %#v", l, k, below, above)
			}
			if got := token.Best(above, below); !slices.Equal(got, l) {
				t.Errorf("P2.2: %#v at %#v: %#v", l, k, got)
			}
		}
	}
}

// P2.2: of two tokens the best one is behind neither, at no key, and comes of them alone.
func TestBestGoesNotBack(t *testing.T) {
	for _, a := range tokens() {
		for _, b := range tokens() {
			best := token.Best(a, b)
			for _, k := range []string{"a", "a\x00", "b", longest, "other"} {
				if token.Of(best, k) != max(token.Of(a, k), token.Of(b, k)) {
					t.Fatalf("P2.2: Best(%#v, %#v): %#v, of %#v", a, b, best, k)
				}
			}
			if !token.Is(best) || !slices.Equal(token.Best(best, a), best) || !slices.Equal(token.Best(b, best), best) {
				t.Fatalf("P2.2: Best(%#v, %#v): %#v", a, b, best)
			}
		}
	}
}
