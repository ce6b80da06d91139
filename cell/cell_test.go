package cell_test

import (
	"errors"
	"math"
	"slices"
	"strings"
	"testing"

	"estuary/api"
	"estuary/cell"
	"estuary/fault"
)

var (
	longest = strings.Repeat("k", api.MaxKey)
	tooLong = strings.Repeat("k", api.MaxKey+1)
	fullest = strings.Repeat("v", api.MaxValue)
	tooMuch = strings.Repeat("v", api.MaxValue+1)
)

// is: a cell that was put.
func is(key, value string, version, floor int) api.Cell {
	return api.Cell{Key: key, Value: value, Version: version, Floor: floor}
}

// gone: a cell that was deleted.
func gone(key string, version, floor int) api.Cell {
	return api.Cell{Key: key, Version: version, Del: true, Floor: floor}
}

// numbers: at the bounds of a Version and of a Floor, beside them, and far beyond.
func numbers() []int {
	return []int{math.MinInt, -1, 0, 1, 2, 7, api.MaxRev - 1, api.MaxRev, api.MaxRev + 1, math.MaxInt - 1, math.MaxInt}
}

func values() []string { return []string{"", "v", "\x00", fullest, tooMuch, strings.Repeat("v", 300)} }

// events: good and wrong ones.
func events() []api.Event {
	var all []api.Event
	for _, k := range []string{"", "\x00", "a", longest, tooLong, "\xff"} {
		for _, v := range values() {
			for _, n := range numbers() {
				all = append(all, api.Event{Key: k, Version: n, Value: v}, api.Event{Key: k, Version: n, Value: v, Del: true})
			}
		}
	}
	return all
}

// cells: good and wrong ones.
func cells() []api.Cell {
	var all []api.Cell
	for _, e := range events() {
		for _, floor := range numbers() {
			all = append(all, api.Cell{Key: e.Key, Value: e.Value, Version: e.Version, Del: e.Del, Floor: floor})
		}
	}
	return all
}

// isEvent: the document's words once more, by what is wrong.
func isEvent(e api.Event) bool {
	wrong := len(e.Key) < 1 || len(e.Key) > 8 || len(e.Value) > 12 || e.Del && len(e.Value) > 0 || e.Version < 1 || e.Version > 1000000000000
	return !wrong
}

// isCell: likewise.
func isCell(c api.Cell) bool {
	wrong := !isEvent(lastEvent(c)) || c.Floor < 0 || c.Floor > c.Version
	return !wrong
}

// lastEvent: what c is, as an event.
func lastEvent(c api.Cell) api.Event {
	return api.Event{Key: c.Key, Version: c.Version, Value: c.Value, Del: c.Del}
}

// outcome: what a call of Put or Del answers.
type outcome struct {
	cell  api.Cell
	event api.Event
	code  api.Errno
}

// told: an error is told by its Code, and by errors.Is of that number and of no other.
func told(t *testing.T, c api.Cell, e api.Event, err error) outcome {
	t.Helper()
	if err == nil {
		return outcome{c, e, api.OK}
	}
	code := fault.Code(err)
	for n := api.ErrForm; n <= api.ErrLine; n++ {
		if errors.Is(err, n) != (n == code) {
			t.Fatalf("P11.2: %v: Code %d, but errors.Is of %d: %v", err, code, n, n != code)
		}
	}
	if err.Error() == "" {
		t.Fatalf("P11.2: the error with Code %d has no text", code)
	}
	return outcome{c, e, code}
}

func put(t *testing.T, c api.Cell, value string) outcome {
	t.Helper()
	after, e, err := cell.Put(c, value)
	return told(t, after, e, err)
}

func del(t *testing.T, c api.Cell) outcome {
	t.Helper()
	after, e, err := cell.Del(c)
	return told(t, after, e, err)
}

// refused: c as it was, no event.
func refused(c api.Cell, code api.Errno) outcome { return outcome{c, api.Event{}, code} }

// changed: that cell, and the event of it.
func changed(c api.Cell) outcome { return outcome{c, lastEvent(c), api.OK} }

// wantPut: the document's words once more.
func wantPut(c api.Cell, value string) outcome {
	if len(value) > 12 {
		return refused(c, 13)
	}
	if c.Version > 999999999999 {
		return refused(c, 18)
	}
	return changed(is(c.Key, value, c.Version+1, c.Floor))
}

// wantDel: likewise.
func wantDel(c api.Cell) outcome {
	if c.Del || c.Version <= 0 {
		return refused(c, 14)
	}
	if c.Version > 999999999999 {
		return refused(c, 18)
	}
	return changed(gone(c.Key, c.Version+1, c.Floor))
}

// P11.1
func TestIs(t *testing.T) {
	for _, c := range []struct {
		c    api.Cell
		want bool
	}{
		{is("a", "v", 1, 0), true}, {is("a", "", 1, 0), true}, {gone("a", 1, 0), true}, {gone("a", 2, 1), true}, {api.Cell{}, false},
		{is("", "v", 1, 0), false}, {is(longest, "v", 1, 0), true}, {is(tooLong, "v", 1, 0), false}, {is("\x00", "v", 1, 0), true}, {gone("", 1, 0), false}, {gone(tooLong, 1, 0), false},
		{is("a", fullest, 1, 0), true}, {is("a", tooMuch, 1, 0), false}, {is("a", "\x00", 1, 0), true},
		{api.Cell{Key: "a", Value: "v", Version: 1, Del: true}, false}, {api.Cell{Key: "a", Value: "\x00", Version: 1, Del: true}, false}, {api.Cell{Key: "a", Value: tooMuch, Version: 1, Del: true}, false},
		{is("a", "v", 0, 0), false}, {is("a", "v", -1, 0), false}, {is("a", "v", -1, -1), false}, {is("a", "v", api.MaxRev, 0), true}, {is("a", "v", api.MaxRev+1, 0), false}, {is("a", "v", math.MaxInt, 0), false},
		{gone("a", 0, 0), false}, {gone("a", api.MaxRev, 0), true}, {gone("a", api.MaxRev+1, 0), false}, {gone("a", math.MinInt, 0), false},
		{is("a", "v", 1, 1), true}, {is("a", "v", 1, 2), false}, {is("a", "v", 1, -1), false}, {is("a", "v", 5, 4), true}, {is("a", "v", 5, 5), true}, {is("a", "v", 5, 6), false},
		{is("a", "v", api.MaxRev, api.MaxRev), true}, {is("a", "v", api.MaxRev, api.MaxRev+1), false}, {gone("a", 3, 3), true}, {gone("a", 3, 4), false}, {gone("a", 3, -1), false},
	} {
		if got := cell.Is(c.c); got != c.want {
			t.Errorf("P11.1: Is(%#v): %v", c.c, got)
		}
	}
	for _, c := range cells() {
		if cell.Is(c) != isCell(c) {
			t.Fatalf("P11.1: Is(%#v): %v", c, !isCell(c))
		}
	}
}

// P11.1
func TestIsEvent(t *testing.T) {
	for _, c := range []struct {
		e    api.Event
		want bool
	}{
		{api.Event{}, false}, {api.Event{Key: "a", Version: 1, Value: "v"}, true}, {api.Event{Key: "a", Version: 1}, true}, {api.Event{Key: "a", Version: 1, Del: true}, true},
		{api.Event{Version: 1, Value: "v"}, false}, {api.Event{Key: longest, Version: 1}, true}, {api.Event{Key: tooLong, Version: 1}, false}, {api.Event{Key: tooLong, Version: 1, Del: true}, false}, {api.Event{Version: 1, Del: true}, false},
		{api.Event{Key: "a", Version: 1, Value: fullest}, true}, {api.Event{Key: "a", Version: 1, Value: tooMuch}, false},
		{api.Event{Key: "a", Version: 1, Value: "v", Del: true}, false}, {api.Event{Key: "a", Version: 1, Value: fullest, Del: true}, false}, {api.Event{Key: "a", Version: 1, Value: tooMuch, Del: true}, false},
		{api.Event{Key: "a", Version: 0}, false}, {api.Event{Key: "a", Version: -1}, false}, {api.Event{Key: "a", Version: api.MaxRev}, true}, {api.Event{Key: "a", Version: api.MaxRev + 1}, false},
		{api.Event{Key: "a", Version: 0, Del: true}, false}, {api.Event{Key: "a", Version: api.MaxRev, Del: true}, true}, {api.Event{Key: "a", Version: api.MaxRev + 1, Del: true}, false}, {api.Event{Key: "a", Version: math.MinInt}, false},
	} {
		if got := cell.IsEvent(c.e); got != c.want {
			t.Errorf("P11.1: IsEvent(%#v): %v", c.e, got)
		}
	}
	for _, e := range events() {
		if cell.IsEvent(e) != isEvent(e) {
			t.Fatalf("P11.1: IsEvent(%#v): %v", e, !isEvent(e))
		}
	}
}

// P11.1: by Version and Del alone, also of a cell that isn't Is.
func TestThere(t *testing.T) {
	for _, c := range []struct {
		c    api.Cell
		want bool
	}{
		{api.Cell{}, false}, {api.Cell{Key: "a"}, false}, {api.Cell{Key: "a", Value: "v"}, false}, {is("a", "v", 1, 0), true}, {is("a", "", 1, 0), true}, {is("a", "v", 7, 7), true},
		{gone("a", 1, 0), false}, {gone("a", 2, 0), false}, {gone("a", 0, 0), false}, {gone("a", api.MaxRev, 0), false}, {is("a", "v", -1, 0), false},
		{is("a", "v", api.MaxRev, 0), true}, {is("a", "v", api.MaxRev+1, 0), true}, {is("", tooMuch, 1, 9), true}, {is(tooLong, "", 1, -1), true},
	} {
		if got := cell.There(c.c); got != c.want {
			t.Errorf("P11.1: There(%#v): %v", c.c, got)
		}
	}
	for _, c := range cells() {
		if want := c.Version > 0 && !c.Del; cell.There(c) != want {
			t.Fatalf("P11.1: There(%#v): %v", c, !want)
		}
	}
}

// P11.2
func TestPut(t *testing.T) {
	for _, c := range []struct {
		c     api.Cell
		value string
		want  outcome
	}{
		{api.Cell{Key: "a"}, "v", outcome{is("a", "v", 1, 0), api.Event{Key: "a", Version: 1, Value: "v"}, api.OK}},
		{api.Cell{Key: "a"}, "", changed(is("a", "", 1, 0))}, {api.Cell{}, "v", changed(is("", "v", 1, 0))},
		{is("a", "v", 1, 0), "w", outcome{is("a", "w", 2, 0), api.Event{Key: "a", Version: 2, Value: "w"}, api.OK}},
		{is("a", "v", 1, 0), "v", changed(is("a", "v", 2, 0))}, {is("a", "v", 1, 0), "", changed(is("a", "", 2, 0))},
		{gone("a", 2, 1), "w", outcome{is("a", "w", 3, 1), api.Event{Key: "a", Version: 3, Value: "w"}, api.OK}},
		{gone("a", 2, 2), "", changed(is("a", "", 3, 2))}, {is(longest, "v", 7, 7), fullest, changed(is(longest, fullest, 8, 7))},
		{is("a", "v", 1, 0), tooMuch, outcome{is("a", "v", 1, 0), api.Event{}, api.ErrLarge}}, {api.Cell{Key: "a"}, tooMuch, refused(api.Cell{Key: "a"}, api.ErrLarge)}, {gone("a", 4, 1), tooMuch, refused(gone("a", 4, 1), api.ErrLarge)},
		{is("a", "v", api.MaxRev-1, 3), "w", changed(is("a", "w", api.MaxRev, 3))},
		{is("a", "v", api.MaxRev, 3), "w", outcome{is("a", "v", api.MaxRev, 3), api.Event{}, api.ErrSpent}}, {gone("a", api.MaxRev, 3), "w", refused(gone("a", api.MaxRev, 3), api.ErrSpent)},
		{is("a", "v", api.MaxRev, 3), tooMuch, refused(is("a", "v", api.MaxRev, 3), api.ErrLarge)},
		{is("a", "v", api.MaxRev+1, 3), "w", refused(is("a", "v", api.MaxRev+1, 3), api.ErrSpent)}, {is("a", "v", math.MaxInt, 3), "w", refused(is("a", "v", math.MaxInt, 3), api.ErrSpent)},
	} {
		if got := put(t, c.c, c.value); got != c.want {
			t.Errorf("P11.2: Put(%#v, %q): %#v", c.c, c.value, got)
		}
	}
}

// P11.2
func TestDel(t *testing.T) {
	for _, c := range []struct {
		c    api.Cell
		want outcome
	}{
		{is("a", "v", 1, 0), outcome{gone("a", 2, 0), api.Event{Key: "a", Version: 2, Del: true}, api.OK}}, {is("a", "", 1, 0), changed(gone("a", 2, 0))},
		{is(longest, fullest, 7, 5), changed(gone(longest, 8, 5))}, {is("a", "v", 7, 7), changed(gone("a", 8, 7))},
		{api.Cell{Key: "a"}, outcome{api.Cell{Key: "a"}, api.Event{}, api.ErrNone}}, {api.Cell{}, refused(api.Cell{}, api.ErrNone)}, {api.Cell{Key: "a", Value: "v"}, refused(api.Cell{Key: "a", Value: "v"}, api.ErrNone)},
		{gone("a", 2, 1), outcome{gone("a", 2, 1), api.Event{}, api.ErrNone}}, {gone("a", 0, 0), refused(gone("a", 0, 0), api.ErrNone)}, {is("a", "v", -1, 0), refused(is("a", "v", -1, 0), api.ErrNone)},
		{is("a", "v", api.MaxRev-1, 3), changed(gone("a", api.MaxRev, 3))},
		{is("a", "v", api.MaxRev, 3), outcome{is("a", "v", api.MaxRev, 3), api.Event{}, api.ErrSpent}}, {gone("a", api.MaxRev, 3), refused(gone("a", api.MaxRev, 3), api.ErrNone)},
		{is("a", "v", api.MaxRev+1, 3), refused(is("a", "v", api.MaxRev+1, 3), api.ErrSpent)}, {is("a", "v", math.MaxInt, 3), refused(is("a", "v", math.MaxInt, 3), api.ErrSpent)},
	} {
		if got := del(t, c.c); got != c.want {
			t.Errorf("P11.2: Del(%#v): %#v", c.c, got)
		}
	}
}

// P11.2: of all cells, also of those that aren't Is; and of one that is, or of a new one of a key, comes what is.
func TestChangesOfAll(t *testing.T) {
	for _, c := range cells() {
		good := isCell(c) || c == api.Cell{Key: c.Key} && isCell(is(c.Key, "", 1, 0))
		changes := []outcome{del(t, c)}
		if want := wantDel(c); changes[0] != want {
			t.Fatalf("P11.2: Del(%#v): %#v, not %#v", c, changes[0], want)
		}
		for _, v := range values() {
			got := put(t, c, v)
			if want := wantPut(c, v); got != want {
				t.Fatalf("P11.2: Put(%#v, %q): %#v, not %#v", c, v, got, want)
			}
			changes = append(changes, got)
		}
		for _, x := range changes {
			if good && x.code == api.OK && (!cell.Is(x.cell) || !cell.IsEvent(x.event) || cell.There(x.cell) == x.event.Del) {
				t.Fatalf("P11.2: of %#v comes %#v", c, x)
			}
		}
	}
}

// step: a value that is put, or a delete.
type step struct {
	value string
	del   bool
}

func (s step) do(t *testing.T, c api.Cell) outcome {
	t.Helper()
	if s.del {
		return del(t, c)
	}
	return put(t, c, s.value)
}

// steps: each of them changes some cells, and is refused by others, or always.
func steps() []step { return []step{{"", false}, {fullest, false}, {tooMuch, false}, {"", true}} }

// orders: all rows of so many steps.
func orders(n int) [][]step {
	all := [][]step{nil}
	for range n {
		var longer [][]step
		for _, row := range all {
			for _, s := range steps() {
				longer = append(longer, append(slices.Clone(row), s))
			}
		}
		all = longer
	}
	return all
}

// goesOn: whether by these steps, one behind the other, each Version is the very next one up to the last there may be, whatever was refused between; and the cell that comes of it.
func goesOn(t *testing.T, c api.Cell, row []step) api.Cell {
	t.Helper()
	for i, s := range row {
		got := s.do(t, c)
		takes := c.Version < api.MaxRev && s.value != tooMuch && (!s.del || cell.There(c))
		want := refused(c, got.code)
		if takes {
			want = outcome{api.Cell{Key: c.Key, Value: s.value, Version: c.Version + 1, Del: s.del, Floor: c.Floor}, api.Event{Key: c.Key, Version: c.Version + 1, Value: s.value, Del: s.del}, api.OK}
		}
		if got != want || takes != (got.code == api.OK) {
			t.Fatalf("P11.3: %#v, step %d: of %#v comes %#v", row[:min(i+1, 20)], i, c, got)
		}
		c = got.cell
	}
	return c
}

// P11.3: from a new one on and up to the last Version, by all orders of a few steps.
func TestVersionsGoOn(t *testing.T) {
	for _, row := range orders(6) {
		for _, from := range []api.Cell{{Key: "a"}, is("a", "v", 1, 1), gone("a", 2, 0), is("a", "v", api.MaxRev-3, 5), gone("a", api.MaxRev-2, api.MaxRev-2)} {
			goesOn(t, from, row)
		}
	}
}

// P11.3: 1, 2, 3 .. of what changes, and of nothing else; what is deleted goes on where it was.
func TestVersionsAreCounted(t *testing.T) {
	c, count := api.Cell{Key: longest}, 0
	for i := range 5000 {
		s := steps()[i*i%7%4]
		got := s.do(t, c)
		if got.code == api.OK {
			count++
			if got.event.Version != count {
				t.Fatalf("P11.3: step %d, %#v: %#v, not Version %d", i, s, got.event, count)
			}
		}
		c = got.cell
		if c.Version != count || count > 0 && !cell.Is(c) {
			t.Fatalf("P11.3: step %d, %#v: %#v, not Version %d", i, s, c, count)
		}
	}
	if count < 2000 || count > 4000 {
		t.Errorf("P11.3: %d of 5000 steps changed it: too few or too many to tell much", count)
	}
}
