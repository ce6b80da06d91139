package history_test

import (
	"math"
	"slices"
	"strconv"
	"strings"
	"testing"

	"estuary/api"
	"estuary/cell"
	"estuary/history"
	"estuary/index"
	"estuary/span"
	"estuary/token"
)

type events = []api.Event

type cells = []api.Cell

type seen = []api.Seen

var (
	longest = strings.Repeat("k", api.MaxKey)
	tooLong = strings.Repeat("k", api.MaxKey+1)
	fullest = strings.Repeat("v", api.MaxValue)
	tooMuch = strings.Repeat("v", api.MaxValue+1)
)

func sp(from, to string) api.Span { return api.Span{From: from, To: to} }

// put, del: events.
func put(key string, version int, value string) api.Event {
	return api.Event{Key: key, Version: version, Value: value}
}

func del(key string, version int) api.Event {
	return api.Event{Key: key, Version: version, Del: true}
}

// is: a cell that was put.
func is(key, value string, version, floor int) api.Cell {
	return api.Cell{Key: key, Value: value, Version: version, Floor: floor}
}

// gone: a cell that was deleted.
func gone(key string, version, floor int) api.Cell {
	return api.Cell{Key: key, Version: version, Del: true, Floor: floor}
}

func saw(key string, version int) api.Seen { return api.Seen{Key: key, Version: version} }

// some: good and wrong events.
func some() events {
	var all events
	for _, k := range []string{"a", "b"} {
		for version := 1; version <= 3; version++ {
			all = append(all, put(k, version, "v"), del(k, version))
		}
	}
	return append(all, put("a", 2, "w"), put("a", 0, "v"), put("a", -1, "v"), put("a", 1, tooMuch), api.Event{Key: "a", Version: 1, Value: "v", Del: true}, put("", 1, "v"), put("c", 1, "v"))
}

// lists: of none, one, two and three of some, in any order.
func lists() []events {
	all := []events{nil}
	longer := all
	for range 3 {
		was := longer
		longer = nil
		for _, l := range was {
			for _, e := range some() {
				longer = append(longer, append(slices.Clone(l), e))
			}
		}
		all = append(all, longer...)
	}
	return all
}

// indexes: good ones of a and b, each not there, put or deleted, of all small Versions and Floors; and wrong ones.
func indexes() []cells {
	all := []cells{nil}
	for _, k := range []string{"a", "b"} {
		for _, l := range all {
			for version := 1; version <= 3; version++ {
				for floor := range version + 1 {
					all = append(all, append(slices.Clone(l), is(k, "v", version, floor)), append(slices.Clone(l), gone(k, version, floor)))
				}
			}
		}
	}
	return append(all,
		cells{is("b", "v", 1, 0), is("a", "v", 1, 0)}, cells{is("a", "v", 1, 0), is("a", "v", 1, 0)}, cells{is("a", "v", 1, 0), gone("a", 2, 1)}, cells{is("a", "v", 1, 2)}, cells{is("a", "v", 1, -1)},
		cells{is("a", "v", 0, 0)}, cells{is("a", tooMuch, 2, 1)}, cells{{Key: "a", Value: "v", Version: 2, Del: true, Floor: 1}}, cells{is("", "v", 1, 0)}, cells{is(tooLong, "v", 1, 0)}, cells{is("a", "v", -2, -9)})
}

// isHistory: the document's words once more, in another way than the program's: Key by Key.
func isHistory(l events, cs cells) bool {
	if !index.Is(cs) {
		return false
	}
	counted := 0
	for _, c := range cs {
		of := ofKey(l, c.Key)
		counted += len(of)
		if len(of) != c.Version-c.Floor {
			return false
		}
		for i, e := range of {
			if e.Version != c.Floor+1+i || len(e.Value) > 12 || e.Del && e.Value != "" {
				return false
			}
		}
		if n := len(of); n > 0 && (of[n-1].Value != c.Value || of[n-1].Del != c.Del) {
			return false
		}
	}
	return counted == len(l)
}

// ofKey: the events of that Key, in order.
func ofKey(l events, key string) events {
	return slices.DeleteFunc(slices.Clone(l), func(e api.Event) bool { return e.Key != key })
}

// wantKeep: the document's words once more: of each Key's first cell by all that goes.
func wantKeep(l events, cs cells, n int) (events, cells) {
	stays := l[len(l)-min(len(l), max(n, 0)):]
	goes := l[:len(l)-len(stays)]
	cs = slices.Clone(cs)
	for i := range cs {
		if slices.IndexFunc(cs, func(c api.Cell) bool { return c.Key == cs[i].Key }) != i {
			continue
		}
		for _, e := range ofKey(goes, cs[i].Key) {
			cs[i].Floor = max(cs[i].Floor, e.Version)
		}
	}
	return stays, cs
}

// wantAfter: likewise: all that is new first.
func wantAfter(l events, cs cells, s api.Span, t seen, most int) (events, bool) {
	of := func(key string) int {
		for _, x := range t {
			if x.Key == key {
				return x.Version
			}
		}
		return 0
	}
	for _, c := range cs {
		if isIn(s, c.Key) && c.Floor > of(c.Key) {
			return nil, true
		}
	}
	news := slices.DeleteFunc(slices.Clone(l), func(e api.Event) bool { return !isIn(s, e.Key) || e.Version <= of(e.Key) })
	return news[:min(max(most, 0), len(news))], false
}

// isIn: the document's words once more.
func isIn(s api.Span, k string) bool {
	spans := len(s.From) <= 8 && len(s.To) <= 8 && (len(s.To) == 0 || s.To > s.From)
	return spans && len(k) >= 1 && len(k) <= 8 && k >= s.From && (len(s.To) == 0 || k < s.To)
}

// P13.1
func TestIs(t *testing.T) {
	for _, c := range []struct {
		l    events
		cs   cells
		want bool
	}{
		{nil, nil, true}, {events{}, cells{}, true}, {nil, cells{is("a", "v", 3, 3)}, true}, {nil, cells{gone("a", 2, 2), is("b", "", 1, 1)}, true},
		{events{put("a", 1, "v")}, cells{is("a", "v", 1, 0)}, true}, {events{put("a", 1, "v"), del("a", 2)}, cells{gone("a", 2, 0)}, true},
		{events{del("a", 5)}, cells{gone("a", 5, 4)}, true}, {events{del("a", 1)}, cells{gone("a", 1, 0)}, true},
		{events{put("b", 1, "v"), put("a", 1, "w"), put("b", 2, "x"), put("a", 2, "")}, cells{is("a", "", 2, 0), is("b", "x", 2, 0)}, true},
		{events{put("b", 8, "v"), put("b", 9, "x")}, cells{is("a", "w", 2, 2), is("b", "x", 9, 7), gone("c", 4, 4)}, true},
		{events{put(longest, api.MaxRev, fullest)}, cells{is(longest, fullest, api.MaxRev, api.MaxRev-1)}, true},
		// the cells are wrong
		{nil, cells{is("b", "v", 1, 1), is("a", "v", 1, 1)}, false}, {nil, cells{is("a", "v", 1, 1), is("a", "v", 1, 1)}, false}, {nil, cells{{Key: "a"}}, false}, {nil, cells{is("a", "v", 1, 2)}, false},
		{events{put("a", 0, "v")}, cells{is("a", "v", 0, -1)}, false}, {events{put("a", 1, tooMuch)}, cells{is("a", tooMuch, 1, 0)}, false}, {events{put("a", api.MaxRev+1, "v")}, cells{is("a", "v", api.MaxRev+1, api.MaxRev)}, false},
		// an event is wrong
		{events{put("a", 1, tooMuch), put("a", 2, "v")}, cells{is("a", "v", 2, 0)}, false}, {events{{Key: "a", Version: 1, Value: "v", Del: true}, put("a", 2, "v")}, cells{is("a", "v", 2, 0)}, false},
		{events{put("", 1, "v")}, nil, false}, {events{put(tooLong, 1, "v")}, nil, false}, {events{put("a", 0, "v"), put("a", 1, "v")}, cells{is("a", "v", 1, 0)}, false}, {events{put("a", -1, "v")}, cells{is("a", "v", 1, 1)}, false},
		{events{put("a", api.MaxRev, "v"), put("a", api.MaxRev+1, "v")}, cells{is("a", "v", api.MaxRev, api.MaxRev-1)}, false},
		// a Key has no cell
		{events{put("a", 1, "v")}, nil, false}, {events{put("a", 1, "v"), put("b", 1, "v")}, cells{is("a", "v", 1, 0)}, false}, {events{put("b", 1, "v"), put("a", 1, "v")}, cells{is("a", "v", 1, 0)}, false},
		// a Version lacks, at the front, in the midst, at the end, all of them
		{events{put("a", 2, "v")}, cells{is("a", "v", 2, 0)}, false}, {events{put("a", 1, "v"), put("a", 3, "v")}, cells{is("a", "v", 3, 0)}, false}, {events{put("a", 1, "v")}, cells{is("a", "v", 2, 0)}, false},
		{nil, cells{is("a", "v", 1, 0)}, false}, {nil, cells{is("a", "v", api.MaxRev, 0)}, false}, {nil, cells{is("a", "v", 1, 1), is("b", "v", 5, 4)}, false}, {events{put("a", 1, "v")}, cells{is("a", "v", 1, 0), is("b", "v", 1, 0)}, false},
		// one is there that shouldn't be: not above the Floor, above the Version, twice
		{events{put("a", 1, "v"), put("a", 2, "v")}, cells{is("a", "v", 2, 1)}, false}, {events{put("a", 1, "v")}, cells{is("a", "v", 1, 1)}, false}, {events{put("a", 2, "v")}, cells{is("a", "v", 1, 1)}, false},
		{events{put("a", 1, "v"), put("a", 2, "v")}, cells{is("a", "v", 1, 0)}, false}, {events{put("a", 1, "v"), put("a", 1, "v")}, cells{is("a", "v", 1, 0)}, false}, {events{put("a", 1, "v"), put("a", 1, "v"), put("a", 2, "v")}, cells{is("a", "v", 2, 0)}, false},
		// out of order
		{events{put("a", 2, "v"), put("a", 1, "v")}, cells{is("a", "v", 2, 0)}, false}, {events{put("a", 1, "v"), put("a", 3, "v"), put("a", 2, "v")}, cells{is("a", "v", 3, 0)}, false},
		// the last one isn't what the cell is
		{events{put("a", 1, "v")}, cells{is("a", "w", 1, 0)}, false}, {events{put("a", 1, "v")}, cells{is("a", "", 1, 0)}, false}, {events{del("a", 1)}, cells{is("a", "", 1, 0)}, false}, {events{put("a", 1, "")}, cells{gone("a", 1, 0)}, false},
		{events{put("a", 1, "v"), put("a", 2, "w")}, cells{is("a", "v", 2, 0)}, false}, {events{put("a", 1, "v"), put("b", 1, "w")}, cells{is("a", "w", 1, 0), is("b", "v", 1, 0)}, false},
	} {
		if got := history.Is(c.l, c.cs); got != c.want {
			t.Errorf("P13.1: Is(%#v, %#v): %v", c.l, c.cs, got)
		}
	}
}

// P13.1: of all lists of some, with all cells.
func TestIsOfAll(t *testing.T) {
	good, all := 0, lists()
	for _, cs := range indexes() {
		for _, l := range all {
			want := isHistory(l, cs)
			if got := history.Is(l, cs); got != want {
				t.Fatalf("P13.1: Is(%#v, %#v): %v", l, cs, got)
			}
			if want {
				good++
			}
		}
	}
	if good < 700 {
		t.Errorf("P13.1: %d good ones: too few to tell much", good)
	}
}

// four: a history of four events, and its cells.
func four() (events, cells) {
	return events{put("b", 3, "v"), put("a", 1, "w"), del("b", 4), put("a", 2, "x")}, cells{is("a", "x", 2, 0), gone("b", 4, 2), is("c", "y", 7, 7)}
}

// P13.1
func TestKeep(t *testing.T) {
	l, cs := four()
	a, b, c := cs[0], cs[1], cs[2]
	for _, x := range []struct {
		n     int
		stays int
		want  cells
	}{
		{4, 4, cs}, {5, 4, cs}, {math.MaxInt, 4, cs},
		{3, 3, cells{a, gone("b", 4, 3), c}}, {2, 2, cells{is("a", "x", 2, 1), gone("b", 4, 3), c}}, {1, 1, cells{is("a", "x", 2, 1), gone("b", 4, 4), c}},
		{0, 0, cells{is("a", "x", 2, 2), gone("b", 4, 4), c}}, {-1, 0, cells{is("a", "x", 2, 2), gone("b", 4, 4), c}}, {math.MinInt, 0, cells{is("a", "x", 2, 2), gone("b", 4, 4), c}},
	} {
		if got, cs := history.Keep(l, cs, x.n); !slices.Equal(got, l[4-x.stays:]) || !slices.Equal(cs, x.want) || !history.Is(got, cs) {
			t.Errorf("P13.1: Keep of %d: %#v, %#v", x.n, got, cs)
		}
	}
	for _, x := range []struct {
		l    events
		cs   cells
		want cells
	}{
		{nil, nil, nil}, {events{}, cells{}, nil}, {nil, cells{a, b}, cells{a, b}}, {events{put("a", 1, "v")}, nil, nil}, {events{put("z", 9, "v")}, cells{a, b}, cells{a, b}},
		{events{put("a", 2, "v")}, cells{is("a", "v", 9, 5)}, cells{is("a", "v", 9, 5)}}, {events{put("a", 5, "v")}, cells{is("a", "v", 9, 5)}, cells{is("a", "v", 9, 5)}}, {events{put("a", 6, "v")}, cells{is("a", "v", 9, 5)}, cells{is("a", "v", 9, 6)}},
		{events{put("a", 7, "v"), put("a", 6, "v")}, cells{is("a", "v", 9, 5)}, cells{is("a", "v", 9, 7)}}, {events{put("a", 12, "v")}, cells{is("a", "v", 9, 5)}, cells{is("a", "v", 9, 12)}},
		{events{put("a", -3, "v")}, cells{is("a", "v", 1, -5), is("b", "v", 1, -5)}, cells{is("a", "v", 1, -3), is("b", "v", 1, -5)}}, {events{put("a", math.MinInt, "v")}, cells{a}, cells{a}},
		{events{put("a", 2, "v")}, cells{is("b", "v", 9, 0), is("a", "v", 9, 0), is("a", "w", 8, 0)}, cells{is("b", "v", 9, 0), is("a", "v", 9, 2), is("a", "w", 8, 0)}},
		{events{put("", 2, tooMuch)}, cells{is("", "v", 1, 0)}, cells{is("", "v", 1, 2)}},
	} {
		for _, n := range []int{0, -1} {
			if got, cs := history.Keep(x.l, x.cs, n); len(got) != 0 || !slices.Equal(cs, x.want) {
				t.Errorf("P13.1: Keep(%#v, %#v, %d): %#v, %#v", x.l, x.cs, n, got, cs)
			}
		}
	}
}

// P13.1
func TestAdd(t *testing.T) {
	l, cs := four()
	c, e, err := cell.Put(cs[1], "new")
	if err != nil {
		t.Fatal(err)
	}
	cs = index.With(cs, c)
	a, b, c := cs[0], cs[1], cs[2]
	for _, x := range []struct {
		most  int
		stays int
		want  cells
	}{
		{5, 5, cs}, {6, 5, cs}, {math.MaxInt, 5, cs},
		{4, 4, cells{a, is("b", "new", 5, 3), c}}, {3, 3, cells{is("a", "x", 2, 1), is("b", "new", 5, 3), c}}, {2, 2, cells{is("a", "x", 2, 1), is("b", "new", 5, 4), c}}, {1, 1, cells{is("a", "x", 2, 2), is("b", "new", 5, 4), c}},
		{0, 0, cells{is("a", "x", 2, 2), is("b", "new", 5, 5), c}}, {-1, 0, cells{is("a", "x", 2, 2), is("b", "new", 5, 5), c}}, {math.MinInt, 0, cells{is("a", "x", 2, 2), is("b", "new", 5, 5), c}},
	} {
		if got, cs := history.Add(l, cs, e, x.most); !slices.Equal(got, append(slices.Clone(l), e)[5-x.stays:]) || !slices.Equal(cs, x.want) || !history.Is(got, cs) {
			t.Errorf("P13.1: Add of %d at most: %#v, %#v", x.most, got, cs)
		}
	}
	for _, e := range some() { // whatever it is
		if got, after := history.Add(nil, cells{a, b}, e, 1); !slices.Equal(got, events{e}) || !slices.Equal(after, cells{a, b}) {
			t.Errorf("P13.1: Add of %#v to none: %#v, %#v", e, got, after)
		}
	}
}

// P13.1: of lists of some, with all cells, whether they are Is or not; what is Is stays so.
func TestKeepOfAll(t *testing.T) {
	all := lists()
	for i, cs := range indexes() {
		for j, l := range all {
			good := isHistory(l, cs)
			if (i+j)%23 != 0 && !good { // some of the wrong ones
				continue
			}
			for n := -1; n <= len(l)+1; n++ {
				want, wantCells := wantKeep(l, cs, n)
				got, after := history.Keep(l, cs, n)
				if !slices.Equal(got, want) || !slices.Equal(after, wantCells) || good && !history.Is(got, after) {
					t.Fatalf("P13.1: Keep(%#v, %#v, %d): %#v, %#v", l, cs, n, got, after)
				}
				if len(l) == 0 {
					continue
				}
				last := len(l) - 1
				if got, after = history.Add(l[:last:last], cs, l[last], n); !slices.Equal(got, want) || !slices.Equal(after, wantCells) {
					t.Fatalf("P13.1: Add(%#v, %#v, %#v, %d): %#v, %#v", l[:last], cs, l[last], n, got, after)
				}
			}
		}
	}
}

// P13.2
func TestAfter(t *testing.T) {
	l := events{put("b", 3, "v"), put("a", 1, "w"), del("b", 4), put("d", 1, "y"), put("a", 2, "x")}
	cs := cells{is("a", "x", 2, 0), gone("b", 4, 2), is("c", "z", 7, 7), is("d", "y", 1, 0)}
	all := seen{saw("a", 2), saw("b", 4), saw("c", 7), saw("d", 1)}
	for _, x := range []struct {
		s         api.Span
		seen      seen
		most      int
		want      events
		compacted bool
	}{
		{sp("", ""), all, 9, nil, false}, {sp("", ""), all, 0, nil, false}, {sp("", ""), nil, 9, nil, true}, {sp("", ""), nil, 0, nil, true}, {sp("", ""), nil, math.MinInt, nil, true},
		// at the Floor, and one below it
		{sp("", ""), seen{saw("b", 2), saw("c", 7)}, 9, l, false}, {sp("", ""), seen{saw("b", 1), saw("c", 7)}, 9, nil, true}, {sp("", ""), seen{saw("b", 2), saw("c", 6)}, 9, nil, true}, {sp("", ""), seen{saw("b", 2)}, 9, nil, true}, {sp("", ""), seen{saw("c", 7)}, 9, nil, true},
		// what is compacted isn't in the span
		{sp("", "b"), nil, 9, events{l[1], l[4]}, false}, {sp("d", ""), nil, 9, events{l[3]}, false}, {sp("a\x00", "b"), nil, 9, nil, false}, {sp("b", "c"), nil, 9, nil, true}, {sp("b", "b\x00"), nil, 9, nil, true}, {sp("b\x00", "c"), nil, 9, nil, false}, {sp("b", "c"), seen{saw("b", 2)}, 9, events{l[0], l[2]}, false}, {sp("c", "d"), seen{saw("c", 7)}, 9, nil, false}, {sp("e", ""), nil, 9, nil, false},
		// above what was seen
		{sp("", ""), seen{saw("a", 1), saw("b", 3), saw("c", 7)}, 9, l[2:], false}, {sp("", ""), seen{saw("a", 2), saw("b", 3), saw("c", 8)}, 9, l[2:4], false}, {sp("", ""), seen{saw("a", 3), saw("b", 9), saw("c", api.MaxRev)}, 9, l[3:4], false}, {sp("", "b"), seen{saw("a", 1)}, 9, l[4:], false}, {sp("", "b"), seen{saw("a", 0)}, 9, events{l[1], l[4]}, false},
		// the first ones
		{sp("", ""), seen{saw("b", 2), saw("c", 7)}, 5, l, false}, {sp("", ""), seen{saw("b", 2), saw("c", 7)}, 4, l[:4], false}, {sp("", ""), seen{saw("b", 2), saw("c", 7)}, 1, l[:1], false}, {sp("", ""), seen{saw("b", 2), saw("c", 7)}, 0, nil, false}, {sp("", ""), seen{saw("b", 2), saw("c", 7)}, -1, nil, false}, {sp("", ""), seen{saw("b", 2), saw("c", 7)}, math.MinInt, nil, false}, {sp("", ""), seen{saw("b", 2), saw("c", 7)}, math.MaxInt, l, false},
		{sp("", "b"), nil, 1, events{l[1]}, false}, {sp("", "b"), seen{saw("a", 1)}, 1, l[4:], false}, {sp("d", ""), nil, 1, events{l[3]}, false},
		// wrong spans and tokens
		{sp("c", "b"), nil, 9, nil, false}, {sp("b", "b"), nil, 9, nil, false}, {sp("", tooLong), nil, 9, nil, false}, {sp(tooLong, ""), nil, 9, nil, false},
		{sp("", ""), seen{saw("c", 7), saw("b", 2), saw("b", 4)}, 9, l, false}, {sp("", ""), seen{saw("c", 7), saw("b", 1), saw("b", 2)}, 9, nil, true}, {sp("", "b"), seen{saw("a", 0), saw("a", 2)}, 9, events{l[1], l[4]}, false}, {sp("", "b"), seen{saw("a", -1)}, 9, nil, true},
	} {
		if got, compacted := history.After(l, cs, x.s, x.seen, x.most); !slices.Equal(got, x.want) || compacted != x.compacted {
			t.Errorf("P13.2: After(%q, %#v, %d): %#v, %v", x.s, x.seen, x.most, got, compacted)
		}
	}
	for _, x := range []struct {
		l         events
		cs        cells
		seen      seen
		want      events
		compacted bool
	}{
		{nil, nil, nil, nil, false}, {events{}, cells{}, seen{}, nil, false}, {nil, cells{is("a", "v", 1, 1)}, nil, nil, true}, {nil, cells{is("a", "v", 1, 1)}, seen{saw("a", 1)}, nil, false},
		{events{put("a", 1, "v")}, nil, nil, events{put("a", 1, "v")}, false}, {events{put("", 1, "v"), put(tooLong, 1, "v"), put(longest, 1, "v")}, nil, nil, events{put(longest, 1, "v")}, false}, {nil, cells{is("", "v", 1, 1), is(tooLong, "v", 1, 1)}, nil, nil, false},
		{events{put("a", 0, "v"), put("a", -1, "v"), put("a", 1, tooMuch)}, nil, nil, events{put("a", 1, tooMuch)}, false}, {events{put("a", 0, "v"), put("a", -1, "v")}, nil, seen{saw("a", -1)}, events{put("a", 0, "v")}, false},
		{nil, cells{is("a", "v", 1, 0)}, seen{saw("a", -1)}, nil, true}, {nil, cells{is("b", "v", 1, 0), is("a", "v", 9, 0), is("a", "v", 9, 4)}, nil, nil, true}, {events{put("a", 3, "v"), put("a", 2, "v")}, cells{is("a", "v", 3, 1)}, seen{saw("a", 1)}, events{put("a", 3, "v"), put("a", 2, "v")}, false},
	} {
		if got, compacted := history.After(x.l, x.cs, sp("", ""), x.seen, 9); !slices.Equal(got, x.want) || compacted != x.compacted {
			t.Errorf("P13.2: After(%#v, %#v, %#v): %#v, %v", x.l, x.cs, x.seen, got, compacted)
		}
	}
}

// tokens: good and wrong ones.
func tokens() []seen {
	all := []seen{nil, {saw("b", 2), saw("a", 1)}, {saw("a", 0), saw("a", 3)}, {saw("a", -1)}, {saw("", 1), saw(tooLong, 1), saw("c", 1)}}
	for a := range 4 {
		for b := range 4 {
			all = append(all, seen{saw("a", a), saw("b", b)})
		}
	}
	return all
}

// P13.2: of lists of some, with all cells, tokens and a few spans, whether they are Is or not.
func TestAfterOfAll(t *testing.T) {
	spans := []api.Span{sp("", ""), sp("", "b"), sp("b", ""), sp("a", "c"), sp("a\x00", "b"), sp("b", "a"), sp("", tooLong)}
	all := lists()
	for i, cs := range indexes() {
		for j, l := range all {
			if (i+j)%37 != 0 && !isHistory(l, cs) { // some of the wrong ones
				continue
			}
			for k, seen := range tokens() {
				s, most := spans[(i+j+k)%len(spans)], (i+k)%5-1
				want, gone := wantAfter(l, cs, s, seen, most)
				if got, compacted := history.After(l, cs, s, seen, most); !slices.Equal(got, want) || compacted != gone {
					t.Fatalf("P13.2: After(%#v, %#v, %q, %#v, %d): %#v, %v", l, cs, s, seen, most, got, compacted)
				}
			}
		}
	}
}

// spoil: all of a list, the spare room too.
func spoil[T any](l []T, with T) {
	l = l[:cap(l)]
	for i := range l {
		l[i] = with
	}
}

// P13.1, P13.2: what is handed in is neither changed nor kept, and no two answers share memory, their spare room included.
func TestMemory(t *testing.T) {
	own := seen{saw("c", 7), saw("b", 2), saw("spare", 1)}
	wasOwn := slices.Clone(own)
	after := func(s api.Span, seen seen, most int) func(l events, cs cells) (events, cells) {
		return func(l events, cs cells) (events, cells) {
			got, _ := history.After(l, cs, s, seen, most)
			return got, nil
		}
	}
	for name, call := range map[string]func(l events, cs cells) (events, cells){
		"Keep, all":        func(l events, cs cells) (events, cells) { return history.Keep(l, cs, 9) },
		"Keep, as many":    func(l events, cs cells) (events, cells) { return history.Keep(l, cs, 4) },
		"Keep, some":       func(l events, cs cells) (events, cells) { return history.Keep(l, cs, 2) },
		"Keep, none":       func(l events, cs cells) (events, cells) { return history.Keep(l, cs, 0) },
		"Keep, below none": func(l events, cs cells) (events, cells) { return history.Keep(l, cs, -1) },
		"Keep, of none":    func(l events, cs cells) (events, cells) { return history.Keep(l[:0], cs[:0], 2) },
		"Add, all":         func(l events, cs cells) (events, cells) { return history.Add(l, cs, put("a", 3, "z"), 9) },
		"Add, as many":     func(l events, cs cells) (events, cells) { return history.Add(l, cs, put("a", 3, "z"), 4) },
		"Add, none":        func(l events, cs cells) (events, cells) { return history.Add(l, cs, put("a", 3, "z"), 0) },
		"Add, to none":     func(l events, cs cells) (events, cells) { return history.Add(l[:0], cs[:0], put("a", 3, "z"), 9) },
		"After, all":       after(sp("", ""), own[:2], 9),
		"After, the first": after(sp("", ""), own[:2], 2),
		"After, the last":  after(sp("", ""), seen{saw("a", 1), saw("b", 4), saw("c", 7)}, 9),
		"After, of none":   after(sp("z", ""), nil, 9),
		"After, compacted": after(sp("", ""), nil, 9),
	} {
		l, cs := four()
		wholeL, wholeC := append(slices.Clone(l), put("spare", 7, ""), put("spare", 8, "")), append(slices.Clone(cs), is("spare", "", 7, 0), is("spare", "", 8, 0))
		wasL, wasC := slices.Clone(wholeL), slices.Clone(wholeC)
		firstL, firstC := call(wholeL[:len(l)], wholeC[:len(cs)])
		secondL, secondC := call(wholeL[:len(l)], wholeC[:len(cs)])
		wantL, wantC := slices.Clone(secondL), slices.Clone(secondC)
		spoil(firstL, put("spoilt", -9, ""))
		spoil(firstC, is("spoilt", "", -9, -9))
		if !slices.Equal(wholeL, wasL) || !slices.Equal(wholeC, wasC) || !slices.Equal(own, wasOwn) {
			t.Errorf("P13.1, P13.2: %s: what was handed in is changed: %#v, %#v, %#v", name, wholeL, wholeC, own)
		}
		spoil(wholeL, put("spoilt", -9, ""))
		spoil(wholeC, is("spoilt", "", -9, -9))
		if !slices.Equal(secondL, wantL) || !slices.Equal(secondC, wantC) {
			t.Errorf("P13.1, P13.2: %s: what was answered is changed: %#v, %#v", name, secondL, secondC)
		}
	}
}

// step: what is done to a history: a put, a delete of a key, or that only the last keep events stay.
type step struct {
	key  string
	del  bool
	keep int
}

func steps() []step {
	return []step{{key: "a"}, {key: "m"}, {key: "a", del: true}, {keep: 1}}
}

// orders: all rows of so many steps.
func orders(n int) [][]step {
	all := [][]step{nil}
	for range n {
		var longer [][]step
		for _, row := range all {
			for _, s := range steps() {
				longer = append(longer, append(slices.Clone(row), s))
			}
		}
		all = longer
	}
	return all
}

// kept: a history as it is kept, and beside it all that ever happened, of which the first ones went.
type kept struct {
	l    events
	cs   cells
	all  events
	went int
}

// change: a put, or a delete.
func change(c api.Cell, del bool, value string) (api.Cell, api.Event, error) {
	if del {
		return cell.Del(c)
	}
	return cell.Put(c, value)
}

// do: by the layers; most of what happened is kept.
func (h *kept) do(s step, most int) {
	if s.key == "" {
		h.l, h.cs = history.Keep(h.l, h.cs, s.keep)
		h.went = max(h.went, len(h.all)-s.keep)
		return
	}
	c, _ := index.Get(h.cs, s.key)
	c, e, err := change(c, s.del, "v"+strconv.Itoa(len(h.all)))
	if err != nil { // what isn't there can't be deleted
		return
	}
	h.l, h.cs = history.Add(h.l, index.With(h.cs, c), e, most)
	h.all = append(h.all, e)
	h.went = max(h.went, len(h.all)-most)
}

// P13.1, P13.3: by all orders of a few steps: the last events are kept, and what is kept is a history; after any token there is what wasn't seen, or, if it is no longer there, that it isn't.
func TestWhatHappened(t *testing.T) {
	for _, row := range orders(6) {
		for _, most := range []int{0, 1, 3, 9} {
			h := &kept{}
			for i, s := range row {
				h.do(s, most)
				if !slices.Equal(h.l, h.all[h.went:]) || !history.Is(h.l, h.cs) || !isHistory(h.l, h.cs) {
					t.Fatalf("P13.1: %v, step %d, most %d: %#v, %#v, of %#v", row, i, most, h.l, h.cs, h.all)
				}
			}
			for _, s := range []api.Span{sp("", ""), sp("a", "b"), sp("m", "")} {
				h.tellsAll(t, s)
			}
		}
	}
}

// tellsAll: after all tokens that may come of what happened.
func (h *kept) tellsAll(t *testing.T, s api.Span) {
	t.Helper()
	for a := range len(ofKey(h.all, "a")) + 1 {
		for m := range len(ofKey(h.all, "m")) + 1 {
			seen := seen{saw("a", a), saw("m", m)}
			isOld := func(e api.Event) bool { return !span.Has(s, e.Key) || e.Version <= token.Of(seen, e.Key) }
			lacks := !slices.Equal(slices.DeleteFunc(slices.Clone(h.all[:h.went]), isOld), nil)
			var news events
			if !lacks {
				news = slices.DeleteFunc(slices.Clone(h.all), isOld)
			}
			for most := range len(news) + 2 {
				got, compacted := history.After(h.l, h.cs, s, seen, most)
				if compacted != lacks || !slices.Equal(got, news[:min(most, len(news))]) {
					t.Fatalf("P13.3: of %#v, of which %d went: After(%q, %#v, %d): %#v, %v", h.all, h.went, s, seen, most, got, compacted)
				}
			}
		}
	}
}

// P13.3: one that asks now and then, for a few at once, is told each version of each key in its span once, in order, or, at the place where one lacks, that it is compacted: and that at no other place.
func TestOneGoesOn(t *testing.T) {
	ends := map[bool]int{}
	for _, s := range []api.Span{sp("", ""), sp("a", "b"), sp("b", "")} {
		for credit := 1; credit <= 4; credit++ {
			for pause := 1; pause <= 40; pause++ {
				ends[goesOn(t, s, credit, pause)]++
			}
		}
	}
	if ends[true] < 50 || ends[false] < 50 {
		t.Errorf("P13.3: %d were compacted, %d weren't: too few to tell much", ends[true], ends[false])
	}
}

// goesOn: whether it was compacted.
func goesOn(t *testing.T, s api.Span, credit, pause int) bool {
	t.Helper()
	h, own, told := &kept{}, seen(nil), 0
	for i := range 300 {
		h.do(step{key: []string{"a", "m", "k", "a", "z"}[i*i%7%5], del: i%11 == 3}, api.MaxHistory)
		if i%pause != 0 {
			continue
		}
		got, compacted := history.After(h.l, h.cs, s, own, credit)
		lacks := slices.ContainsFunc(h.all[:h.went], func(e api.Event) bool { return span.Has(s, e.Key) && e.Version > token.Of(own, e.Key) })
		wants := slices.DeleteFunc(slices.Clone(h.all), func(e api.Event) bool { return !span.Has(s, e.Key) })[told:]
		if compacted != lacks || !lacks && !slices.Equal(got, wants[:min(credit, len(wants))]) {
			t.Fatalf("P13.3: %q, credit %d, pause %d, step %d: %#v, %v, behind %d", s, credit, pause, i, got, compacted, told)
		}
		if compacted {
			return true
		}
		for _, e := range got {
			if e.Version != token.Of(own, e.Key)+1 {
				t.Fatalf("P13.3: %q, credit %d, pause %d, step %d: %#v isn't the very next one", s, credit, pause, i, e)
			}
			own = token.With(own, saw(e.Key, e.Version))
		}
		told += len(got)
	}
	return false
}

// P13.1: of long lists, too, each call comes back soon.
func TestLongLists(t *testing.T) {
	var l events
	var cs cells
	name := func(i int) string { return string([]byte{byte(i >> 16), byte(i >> 8), byte(i)}) }
	most := 100000
	for i := range most {
		l = append(l, put(name(i), 1, "v"))
		cs = append(cs, is(name(i), "v", 1, 0))
	}
	if !history.Is(l, cs) || history.Is(l[1:], cs) {
		t.Fatal("P13.1: Is of a long list")
	}
	got, after := history.Keep(l, cs, most/2)
	if !slices.Equal(got, l[most/2:]) || !history.Is(got, after) {
		t.Fatal("P13.1: Keep of a long list")
	}
	for i, c := range after {
		if want := is(name(i), "v", 1, (most-1-i)/(most/2)); c != want {
			t.Fatalf("P13.1: Keep of a long list: %#v, not %#v", c, want)
		}
	}
	if news, compacted := history.After(got, after, sp(name(most/2), ""), nil, most); compacted || !slices.Equal(news, got) {
		t.Fatalf("P13.2: After of a long list: %d, %v", len(news), compacted)
	}
}
