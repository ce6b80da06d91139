package index_test

import (
	"maps"
	"math"
	"slices"
	"strings"
	"testing"

	"estuary/api"
	"estuary/cell"
	"estuary/index"
	"estuary/span"
)

type cells = []api.Cell

type rows = []api.Row

var (
	longest = strings.Repeat("k", api.MaxKey)
	tooLong = strings.Repeat("k", api.MaxKey+1)
	fullest = strings.Repeat("v", api.MaxValue)
	tooMuch = strings.Repeat("v", api.MaxValue+1)
)

func sp(from, to string) api.Span { return api.Span{From: from, To: to} }

// is: a cell that was put.
func is(key, value string, version int) api.Cell {
	return api.Cell{Key: key, Value: value, Version: version}
}

// gone: a cell that was deleted.
func gone(key string, version int) api.Cell {
	return api.Cell{Key: key, Version: version, Del: true}
}

func row(key, value string, version int) api.Row {
	return api.Row{Key: key, Value: value, Version: version}
}

func keys() []string {
	return []string{"", "\x00", "a", "a\x00", "aa", "b", longest, tooLong, "\xff"}
}

// of: of that Key good cells and wrong ones.
func of(key string) cells {
	return cells{
		is(key, "v", 1), gone(key, 2), {Key: key, Value: fullest, Version: api.MaxRev, Floor: api.MaxRev}, {Key: key, Version: 7, Del: true, Floor: 3},
		{Key: key}, is(key, "v", 0), is(key, "v", -1), is(key, "v", math.MaxInt), is(key, tooMuch, 1), gone(key, 0), gone(key, api.MaxRev+1),
		{Key: key, Value: "v", Version: 1, Del: true}, {Key: key, Value: "v", Version: 1, Floor: 2}, {Key: key, Value: "v", Version: 1, Floor: -1},
	}
}

// some: of() of all keys.
func some() cells {
	var all cells
	for _, k := range keys() {
		all = append(all, of(k)...)
	}
	return all
}

// lists: of none, one and two of some, in any order, and of three in all orders, with a Key twice, with a wrong one anywhere.
func lists() []cells {
	all := []cells{nil, {}}
	for _, x := range some() {
		all = append(all, cells{x})
		for _, y := range some() {
			all = append(all, cells{x, y})
		}
	}
	for _, x := range threes() {
		for _, y := range threes() {
			for _, z := range threes() {
				all = append(all, cells{x, y, z})
			}
		}
	}
	return all
}

// threes: what lists of three are made of.
func threes() cells {
	return cells{is("a", "v", 1), gone("a", 2), is("b", "w", 3), gone("b", 4), is("c", "x", 5), is("a", "v", 0), is("b", tooMuch, 1), is("", "v", 1), is(tooLong, "v", 1)}
}

// indexes: all that are good of these Keys, each not there, put or deleted.
func indexes() []cells {
	all := []cells{nil}
	for _, k := range []string{"\x00", "a", "a\x00", "b", longest, "\xff"} {
		for _, l := range all {
			for _, c := range (cells{is(k, "of "+k[:1], 3), {Key: k, Version: api.MaxRev, Del: true, Floor: 2}}) {
				all = append(all, append(slices.Clone(l), c))
			}
		}
	}
	return all
}

// spans: good ones and wrong ones.
func spans() []api.Span {
	var all []api.Span
	for _, from := range keys() {
		for _, to := range keys() {
			all = append(all, sp(from, to))
		}
	}
	return all
}

// isKey, isCell, isIndex, isIn, isThere: the document's words once more, in another way than the program's.
func isKey(k string) bool { return len(k) >= 1 && len(k) <= 8 }

func isCell(c api.Cell) bool {
	wrong := !isKey(c.Key) || len(c.Value) > 12 || c.Del && len(c.Value) > 0 || c.Version < 1 || c.Version > 1000000000000 || c.Floor < 0 || c.Floor > c.Version
	return !wrong
}

func isIndex(l cells) bool {
	for i, c := range l {
		if !isCell(c) || i > 0 && strings.Compare(l[i-1].Key, c.Key) != -1 {
			return false
		}
	}
	return true
}

func isIn(s api.Span, k string) bool {
	spans := len(s.From) <= 8 && len(s.To) <= 8 && (len(s.To) == 0 || strings.Compare(s.To, s.From) == 1)
	return spans && isKey(k) && strings.Compare(k, s.From) != -1 && (len(s.To) == 0 || strings.Compare(k, s.To) == -1)
}

func isThere(c api.Cell) bool { return c.Version >= 1 && !c.Del }

// sorted: what a map of cells is as a list.
func sorted(m map[string]api.Cell) cells {
	var l cells
	for _, k := range slices.Sorted(maps.Keys(m)) {
		l = append(l, m[k])
	}
	return l
}

// byKey: of each Key the first one.
func byKey(l cells) map[string]api.Cell {
	m := map[string]api.Cell{}
	for _, c := range slices.Backward(l) {
		m[c.Key] = c
	}
	return m
}

// wantRows: the document's words once more, all rows first.
func wantRows(l cells, s api.Span, most int) rows {
	var all rows
	for _, c := range l {
		if isIn(s, c.Key) && isThere(c) {
			all = append(all, row(c.Key, c.Value, c.Version))
		}
	}
	return all[:min(max(most, 0), len(all))]
}

// P12.1
func TestIs(t *testing.T) {
	for _, c := range []struct {
		l    cells
		want bool
	}{
		{nil, true}, {cells{}, true}, {cells{is("a", "v", 1)}, true}, {cells{gone("a", 2)}, true}, {cells{is("a", "", 1)}, true},
		{cells{is("a", "v", 1), gone("b", 2), is("c", "v", 1)}, true}, {cells{is("a", "v", 1), is("a\x00", "v", 1), is("aa", "v", 1)}, true},
		{cells{is("Z", "v", 1), is("a", "v", 1), is("\xff", "v", 1)}, true}, {cells{is("\x00", "v", 1)}, true},
		{cells{is(longest, fullest, api.MaxRev)}, true}, {cells{{Key: "a", Version: 5, Floor: 5}}, true},
		{cells{is("a", "v", 1), is("a", "v", 1)}, false}, {cells{is("a", "v", 1), gone("a", 2)}, false}, {cells{is("b", "v", 1), is("a", "v", 1)}, false},
		{cells{is("a", "v", 1), is("c", "v", 1), is("b", "v", 1)}, false}, {cells{is("a", "v", 1), is("b", "v", 1), is("b", "v", 1)}, false}, {cells{is("a", "v", 1), is("Z", "v", 1)}, false},
		{cells{is("", "v", 1)}, false}, {cells{is("", "v", 1), is("a", "v", 1)}, false}, {cells{is(tooLong, "v", 1)}, false}, {cells{{Key: "a"}}, false},
		{cells{is("a", "v", api.MaxRev+1)}, false}, {cells{is("a", "v", -1)}, false}, {cells{is("a", tooMuch, 1)}, false}, {cells{{Key: "a", Value: "v", Version: 1, Del: true}}, false},
		{cells{{Key: "a", Version: 5, Floor: 6}}, false}, {cells{{Key: "a", Version: 5, Floor: -1}}, false},
		{cells{is("a", "v", 1), is("b", "v", 0)}, false}, {cells{is("a", "v", 0), is("b", "v", 1)}, false}, {cells{is("a", "v", 1), is("b", tooMuch, 1), is("c", "v", 1)}, false},
	} {
		if got := index.Is(c.l); got != c.want {
			t.Errorf("P12.1: Is(%#v): %v", c.l, got)
		}
	}
	for _, l := range lists() {
		if index.Is(l) != isIndex(l) {
			t.Fatalf("P12.1: Is(%#v): %v", l, !isIndex(l))
		}
	}
	for _, l := range indexes() {
		if !index.Is(l) {
			t.Fatalf("P12.1: Is(%#v): false", l)
		}
	}
}

// P12.1
func TestGet(t *testing.T) {
	three := cells{is("b", "v", 1), gone("d", 2), {Key: "f", Value: "w", Version: 9, Floor: 4}}
	for _, c := range []struct {
		l     cells
		key   string
		want  api.Cell
		there bool
	}{
		{nil, "a", api.Cell{Key: "a"}, false}, {cells{}, "a", api.Cell{Key: "a"}, false}, {nil, "", api.Cell{}, false}, {nil, tooLong, api.Cell{Key: tooLong}, false},
		{three, "b", is("b", "v", 1), true}, {three, "d", gone("d", 2), true}, {three, "f", api.Cell{Key: "f", Value: "w", Version: 9, Floor: 4}, true},
		{three, "a", api.Cell{Key: "a"}, false}, {three, "c", api.Cell{Key: "c"}, false}, {three, "e", api.Cell{Key: "e"}, false}, {three, "g", api.Cell{Key: "g"}, false},
		{three, "b\x00", api.Cell{Key: "b\x00"}, false}, {three, "B", api.Cell{Key: "B"}, false}, {three, "", api.Cell{}, false}, {three, tooLong, api.Cell{Key: tooLong}, false},
		{cells{is(longest, "v", 1)}, longest, is(longest, "v", 1), true}, {cells{is(longest, "v", 1)}, longest[1:], api.Cell{Key: longest[1:]}, false},
		{cells{is("c", "v", 1), is("a", "w", 2), is("b", "x", 3)}, "a", is("a", "w", 2), true}, {cells{is("c", "v", 1), is("a", "w", 2), is("b", "x", 3)}, "c", is("c", "v", 1), true},
		{cells{is("a", "v", 1), is("a", "w", 2)}, "a", is("a", "v", 1), true}, {cells{is("b", "v", 1), is("a", "w", 2), is("b", "x", 3)}, "b", is("b", "v", 1), true},
		{cells{is("a", "v", 0)}, "a", is("a", "v", 0), true}, {cells{is("", "v", 1)}, "", is("", "v", 1), true}, {cells{is(tooLong, tooMuch, -1)}, tooLong, is(tooLong, tooMuch, -1), true},
	} {
		if got, there := index.Get(c.l, c.key); got != c.want || there != c.there {
			t.Errorf("P12.1: Get(%#v, %q): %#v, %v", c.l, c.key, got, there)
		}
	}
}

// P12.1: of any list, also of one that isn't Is (of a Key that is there twice the first one), and of any text.
func TestGetOfAll(t *testing.T) {
	for _, l := range append(lists(), indexes()...) {
		m := byKey(l)
		for _, k := range keys() {
			want, there := m[k]
			want.Key = k
			if got, ok := index.Get(l, k); got != want || ok != there {
				t.Fatalf("P12.1: Get(%#v, %q): %#v, %v", l, k, got, ok)
			}
		}
	}
}

// P12.1
func TestWith(t *testing.T) {
	three := cells{is("b", "v", 1), gone("d", 2), {Key: "f", Value: "w", Version: 9, Floor: 4}}
	b, d, f := three[0], three[1], three[2]
	for _, c := range []struct {
		l    cells
		c    api.Cell
		want cells
	}{
		{nil, is("a", "v", 1), cells{is("a", "v", 1)}}, {cells{}, gone("a", 2), cells{gone("a", 2)}},
		{three, is("a", "x", 5), cells{is("a", "x", 5), b, d, f}}, {three, is("c", "x", 5), cells{b, is("c", "x", 5), d, f}},
		{three, is("d\x00", "x", 5), cells{b, d, is("d\x00", "x", 5), f}}, {three, gone("\xff", 5), cells{b, d, f, gone("\xff", 5)}},
		{three, is(longest, fullest, api.MaxRev), cells{b, d, f, is(longest, fullest, api.MaxRev)}},
		{three, is("b", "x", 5), cells{is("b", "x", 5), d, f}}, {three, is("d", "x", 5), cells{b, is("d", "x", 5), f}}, {three, gone("f", 10), cells{b, d, gone("f", 10)}},
		{three, is("f", "", 1), cells{b, d, is("f", "", 1)}}, {three, d, three}, {three, api.Cell{Key: "d", Version: 2, Del: true, Floor: 2}, cells{b, {Key: "d", Version: 2, Del: true, Floor: 2}, f}},
		{three, api.Cell{Key: "d"}, three}, {three, api.Cell{Key: "a"}, three}, {three, is("", "v", 1), three}, {three, is(tooLong, "v", 1), three}, {three, is("d", tooMuch, 3), three}, {three, is("d", "v", api.MaxRev+1), three},
		{three, api.Cell{Key: "d", Value: "v", Version: 3, Del: true}, three}, {three, api.Cell{Key: "d", Version: 3, Floor: 4}, three}, {three, api.Cell{Key: "c", Version: 3, Floor: -1}, three}, {nil, api.Cell{}, nil}, {nil, is("a", "v", 0), nil},
		{cells{is("b", "v", 1), is("a", "v", 1)}, api.Cell{Key: "c"}, cells{is("b", "v", 1), is("a", "v", 1)}}, {cells{is("a", "v", 0)}, is("b", "v", 1), cells{is("a", "v", 0), is("b", "v", 1)}}, {cells{is("a", "v", 0)}, is("a", "v", 1), cells{is("a", "v", 1)}},
	} {
		if got := index.With(c.l, c.c); !slices.Equal(got, c.want) {
			t.Errorf("P12.1: With(%#v, %#v): %#v", c.l, c.c, got)
		}
	}
}

// P12.1: of all good lists and all cells: as a map has it, by order of Key.
func TestWithOfAll(t *testing.T) {
	for _, l := range indexes() {
		for _, c := range some() {
			want := byKey(l)
			if isCell(c) {
				want[c.Key] = c
			}
			if got := index.With(l, c); !slices.Equal(got, sorted(want)) || !index.Is(got) {
				t.Fatalf("P12.1: With(%#v, %#v): %#v", l, c, got)
			}
		}
	}
}

// P12.1: of lists that aren't Is, too: c is there in the place of the first one of its Key, nothing else goes, all else stays in order; and where c isn't cell's Is all is as it was.
func TestWithOfWrongLists(t *testing.T) {
	for _, l := range lists() {
		for _, c := range (cells{is("a", "new", 9), is("aa", "new", 9), is("c", "new", 9), is(longest, "new", 9), is("a", tooMuch, 9), is("", "new", 9), {Key: "b"}}) {
			got := index.With(l, c)
			if !isCell(c) {
				if !slices.Equal(got, l) {
					t.Fatalf("P12.1: With(%#v, %#v): %#v", l, c, got)
				}
				continue
			}
			sameKey := func(x api.Cell) bool { return x.Key == c.Key }
			was, at := slices.IndexFunc(l, sameKey), slices.IndexFunc(got, sameKey)
			if at < 0 || got[at] != c || was >= 0 && at != was {
				t.Fatalf("P12.1: With(%#v, %#v): %#v", l, c, got)
			}
			others, left := slices.Delete(slices.Clone(got), at, at+1), slices.Clone(l)
			if was >= 0 {
				left = slices.Delete(left, was, was+1)
			}
			if !slices.Equal(others, left) {
				t.Fatalf("P12.1: With(%#v, %#v): %#v", l, c, got)
			}
		}
	}
}

// P12.1
func TestWithin(t *testing.T) {
	four := cells{is("a", "v", 1), gone("b", 2), {Key: "c", Value: "w", Version: 9, Floor: 4}, is("d", "", 1)}
	for _, c := range []struct {
		l    cells
		s    api.Span
		want cells
	}{
		{nil, sp("", ""), nil}, {cells{}, sp("a", "b"), nil}, {four, sp("", ""), four}, {four, sp("b", "d"), four[1:3]}, {four, sp("b", ""), four[1:]}, {four, sp("", "b"), four[:1]},
		{four, sp("b\x00", ""), four[2:]}, {four, sp("", "b\x00"), four[:2]}, {four, sp("", "a"), nil}, {four, sp("d\x00", ""), nil}, {four, sp("e", ""), nil}, {four, sp("b", "b\x00"), four[1:2]}, {four, sp("", longest), four},
		{four, sp("d", "b"), nil}, {four, sp("b", "b"), nil}, {four, sp("", tooLong), nil}, {four, sp(tooLong, ""), nil},
		{cells{is("d", "v", 1), is("a", "v", 1), gone("b", 2), is("a", "w", 7)}, sp("", "c"), cells{is("a", "v", 1), gone("b", 2), is("a", "w", 7)}},
		{cells{is("", "v", 1), is(tooLong, "v", 1), is(longest, "v", 1)}, sp("", ""), cells{is(longest, "v", 1)}},
		{cells{{Key: "a"}, is("b", tooMuch, -1)}, sp("", ""), cells{{Key: "a"}, is("b", tooMuch, -1)}},
	} {
		if got := index.Within(c.l, c.s); !slices.Equal(got, c.want) {
			t.Errorf("P12.1: Within(%#v, %q): %#v", c.l, c.s, got)
		}
	}
	for _, l := range indexes() {
		for _, s := range spans() {
			want := slices.DeleteFunc(slices.Clone(l), func(c api.Cell) bool { return !isIn(s, c.Key) })
			if got := index.Within(l, s); !slices.Equal(got, want) || !index.Is(got) {
				t.Fatalf("P12.1: Within(%#v, %q): %#v", l, s, got)
			}
		}
	}
}

// P12.1
func TestRows(t *testing.T) {
	five := cells{is("a", "v", 1), gone("b", 2), {Key: "c", Value: "w", Version: 9, Floor: 4}, is("d", "", api.MaxRev), is("e", fullest, 5)}
	a, c, d, e := row("a", "v", 1), row("c", "w", 9), row("d", "", api.MaxRev), row("e", fullest, 5)
	for _, x := range []struct {
		l    cells
		s    api.Span
		most int
		want rows
	}{
		{nil, sp("", ""), 9, nil}, {cells{}, sp("a", "b"), 1, nil}, {nil, sp("", ""), 0, nil}, {nil, sp("", ""), -1, nil},
		{five, sp("", ""), 9, rows{a, c, d, e}}, {five, sp("", ""), 4, rows{a, c, d, e}}, {five, sp("", ""), 3, rows{a, c, d}}, {five, sp("", ""), 2, rows{a, c}}, {five, sp("", ""), 1, rows{a}},
		{five, sp("", ""), 0, nil}, {five, sp("", ""), -1, nil}, {five, sp("", ""), math.MinInt, nil}, {five, sp("", ""), math.MaxInt, rows{a, c, d, e}},
		{five, sp("b", ""), 1, rows{c}}, {five, sp("b", "d"), 9, rows{c}}, {five, sp("b", "c"), 9, nil}, {five, sp("", "b"), 9, rows{a}}, {five, sp("c\x00", ""), 1, rows{d}}, {five, sp("d", "d\x00"), 9, rows{d}}, {five, sp("f", ""), 9, nil}, {five, sp("", "a"), 9, nil},
		{five, sp("d", "b"), 9, nil}, {five, sp("b", "b"), 9, nil}, {five, sp("", tooLong), 9, nil}, {five, sp(tooLong, ""), 9, nil},
		{cells{gone("a", 2), gone("b", 4)}, sp("", ""), 9, nil}, {cells{gone("a", 2), gone("b", 4), is("c", "v", 1)}, sp("", ""), 1, rows{row("c", "v", 1)}},
		{cells{{Key: "a"}, is("b", "v", 0), is("c", "v", -1), is("d", tooMuch, 1)}, sp("", ""), 9, rows{row("d", tooMuch, 1)}}, {cells{is("", "v", 1), is(tooLong, "v", 1)}, sp("", ""), 9, nil},
		{cells{is("d", "v", 1), is("a", "w", 2), gone("b", 2), is("a", "x", 7)}, sp("", "c"), 9, rows{row("a", "w", 2), row("a", "x", 7)}},
	} {
		if got := index.Rows(x.l, x.s, x.most); !slices.Equal(got, x.want) {
			t.Errorf("P12.1: Rows(%#v, %q, %d): %#v", x.l, x.s, x.most, got)
		}
	}
	for _, l := range indexes() {
		for _, s := range spans() {
			for _, most := range []int{-1, 0, 1, 2, 3, api.MaxRows, math.MaxInt} {
				if got, want := index.Rows(l, s, most), wantRows(l, s, most); !slices.Equal(got, want) {
					t.Fatalf("P12.1: Rows(%#v, %q, %d): %#v", l, s, most, got)
				}
			}
		}
	}
}

// P12.1: Within and Rows of lists that aren't Is, too: in the order of the list.
func TestSpansOfWrongLists(t *testing.T) {
	for _, l := range lists() {
		for _, s := range []api.Span{sp("", ""), sp("a", ""), sp("", "a\x00"), sp("b", longest), sp("b", "a")} {
			want := slices.DeleteFunc(slices.Clone(l), func(c api.Cell) bool { return !isIn(s, c.Key) })
			if got := index.Within(l, s); !slices.Equal(got, want) {
				t.Fatalf("P12.1: Within(%#v, %q): %#v", l, s, got)
			}
			for most := range 4 {
				if got, want := index.Rows(l, s, most), wantRows(l, s, most); !slices.Equal(got, want) {
					t.Fatalf("P12.1: Rows(%#v, %q, %d): %#v", l, s, most, got)
				}
			}
		}
	}
}

// spoil: all of a list, the spare room too.
func spoil[T any](l []T, with T) {
	l = l[:cap(l)]
	for i := range l {
		l[i] = with
	}
}

// P12.1: what is handed in is neither changed nor kept, and no two answers share memory, their spare room included.
func TestMemory(t *testing.T) {
	for name, call := range map[string]func(l cells) cells{
		"With, of a new key":    func(l cells) cells { return index.With(l, is("d", "x", 9)) },
		"With, of a key there":  func(l cells) cells { return index.With(l, is("c", "x", 9)) },
		"With, of the last key": func(l cells) cells { return index.With(l, is("e", "x", 9)) },
		"With, of one above":    func(l cells) cells { return index.With(l, is("z", "x", 9)) },
		"With, of one below":    func(l cells) cells { return index.With(l, is("A", "x", 9)) },
		"With, of none":         func(l cells) cells { return index.With(l[:0], is("z", "x", 9)) },
		"With, of what isn't":   func(l cells) cells { return index.With(l, is("c", tooMuch, 9)) },
		"With, of none at all":  func(l cells) cells { return index.With(l[:0], is("c", tooMuch, 9)) },
		"Within, all":           func(l cells) cells { return index.Within(l, sp("", "")) },
		"Within, the first":     func(l cells) cells { return index.Within(l, sp("", "e")) },
		"Within, none":          func(l cells) cells { return index.Within(l, sp("z", "")) },
	} {
		whole := cells{is("a", "v", 1), gone("c", 2), is("e", "w", 3), is("spare", "v", 7), is("spare", "v", 8)}
		was := slices.Clone(whole)
		first, second := call(whole[:3]), call(whole[:3])
		want := slices.Clone(second)
		spoil(first, is("spoilt", "", -9))
		if !slices.Equal(whole, was) {
			t.Errorf("P12.1: %s: what was handed in is changed: %#v", name, whole)
		}
		spoil(whole, is("spoilt", "", -9))
		if !slices.Equal(second, want) {
			t.Errorf("P12.1: %s: what was answered is changed: %#v", name, second)
		}
	}
	l := cells{is("a", "v", 1), gone("c", 2), is("e", "w", 3)}
	first, second := index.Rows(l, sp("", ""), 9), index.Rows(l, sp("", ""), 9)
	spoil(first, row("spoilt", "", -9))
	if want := (rows{row("a", "v", 1), row("e", "w", 3)}); !slices.Equal(second, want) {
		t.Errorf("P12.1: Rows: what was answered is changed: %#v", second)
	}
}

// steps: puts and deletes of keys in some order, by their places in a list of keys; each step may be of the same key as an earlier one.
func steps(n, keys int) [][]int {
	all := [][]int{nil}
	for range n {
		var longer [][]int
		for _, l := range all {
			for k := range 2 * keys {
				longer = append(longer, append(slices.Clone(l), k))
			}
		}
		all = longer
	}
	return all
}

// P12.2: in whatever order keys come, are changed, deleted and come again, they stand in order, each once, as it was last made.
func TestKeysStayInOrder(t *testing.T) {
	names := []string{"m", "a", "\xff"}
	for _, order := range steps(5, len(names)) {
		var l cells
		want := map[string]api.Cell{}
		for _, step := range order {
			c, there := index.Get(l, names[step/2])
			if known, ok := want[c.Key]; ok != there || ok && known != c {
				t.Fatalf("P12.2: %v: Get of %q: %#v, %v", order, names[step/2], c, there)
			}
			c, _, err := change(c, step%2 == 1)
			l = index.With(l, c)
			if err == nil {
				want[c.Key] = c
			}
			if !slices.Equal(l, sorted(want)) || !index.Is(l) {
				t.Fatalf("P12.2: %v: %#v, not %#v", order, l, sorted(want))
			}
		}
	}
}

// change: a put, or a delete.
func change(c api.Cell, del bool) (api.Cell, api.Event, error) {
	if del {
		return cell.Del(c)
	}
	return cell.Put(c, "v")
}

// P12.2: of many keys too, that come from both ends to the middle, and back; rows come in order, as many as are asked for.
func TestManyKeys(t *testing.T) {
	var l cells
	name := func(i int) string { return string([]byte{byte(i >> 8), byte(i)}) }
	most := 600
	for i := range most {
		at := i / 2
		if i%2 == 1 {
			at = most - 1 - i/2
		}
		if l = index.With(l, is(name(at), "v", at+1)); len(l) != i+1 || !index.Is(l) {
			t.Fatalf("P12.2: step %d: %d cells, or they aren't in order", i, len(l))
		}
	}
	for i := range most {
		if c, there := index.Get(l, name(i)); !there || c != is(name(i), "v", i+1) || l[i] != c {
			t.Fatalf("P12.2: Get of %d: %#v, %v", i, c, there)
		}
	}
	for from := 0; from < most; from += 37 {
		got := index.Rows(l, sp(name(from), name(most-10)), api.MaxRows)
		if want := max(0, min(api.MaxRows, most-10-from)); len(got) != want {
			t.Fatalf("P12.2: from %d on %d rows, not %d", from, len(got), want)
		}
		for i, r := range got {
			if r != row(name(from+i), "v", from+i+1) {
				t.Fatalf("P12.2: from %d on, row %d: %#v", from, i, r)
			}
		}
	}
}

// P12.2: wherever a span is cut, each key is in one of the parts, and both are the whole again, in order.
func TestPartsAreTheWhole(t *testing.T) {
	for _, l := range indexes() {
		for _, k := range []string{"\x00", "a", "a\x00", "aa", "b", "j", longest, "l", "\xff"} {
			lo, hi, ok := span.Cut(sp("", ""), k)
			if !ok {
				t.Fatalf("no cut at %q", k)
			}
			below, above := index.Within(l, lo), index.Within(l, hi)
			if !index.Is(below) || !index.Is(above) || !slices.Equal(slices.Concat(below, above), l) {
				t.Fatalf("P12.2: %#v at %q: %#v, %#v", l, k, below, above)
			}
			lows, highs := index.Rows(l, lo, 9), index.Rows(l, hi, 9)
			if !slices.Equal(slices.Concat(lows, highs), index.Rows(l, sp("", ""), 9)) {
				t.Fatalf("P12.2: rows of %#v at %q: %#v, %#v", l, k, lows, highs)
			}
		}
	}
}
