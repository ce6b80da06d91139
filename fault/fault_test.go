package fault_test

import (
	"errors"
	"fmt"
	"math"
	"slices"
	"strings"
	"testing"

	"estuary/api"
	"estuary/fault"
)

// outer: an error from outside that wraps another one.
type outer struct{ err error }

func (o outer) Error() string { return "outer(" + o.err.Error() + ")" }
func (o outer) Unwrap() error { return o.err }

// many: an error that can't be held against another one, and wraps what is in it.
type many []error

func (m many) Error() string   { return "many" }
func (m many) Unwrap() []error { return m }

// posing: it isn't an Errno and wraps none, but errors.As takes it for one.
type posing struct{}

func (posing) Error() string { return "posing" }
func (posing) As(target any) bool {
	code, ok := target.(*api.Errno)
	if ok {
		*code = api.ErrClash
	}
	return ok
}

// rude: it panics whatever it is asked.
type rude struct{}

func (rude) Error() string { panic("rude") }
func (rude) Unwrap() error { panic("rude") }

var plain = errors.New("plain")

// codes: all that there are, and some that aren't.
func codes() []api.Errno {
	all := []api.Errno{math.MinInt, -1, 1, 9, 26, math.MaxInt}
	for c := api.ErrForm; c <= api.ErrLine; c++ {
		all = append(all, c)
	}
	return all
}

// told: an error, and what the document's words say of it.
type told struct {
	name   string
	err    error
	code   api.Errno
	wheres []string
	text   string
}

// table: ordinary ones, edges, and errors from outside.
func table() []told {
	number := api.ErrNone
	return []told{
		{"nil", nil, api.OK, nil, ""},
		{"New of OK", fault.New(api.OK, "a"), api.OK, nil, ""},
		{"Wrap of nil", fault.Wrap(nil, "a"), api.OK, nil, ""},
		{"New", fault.New(api.ErrNone, "b"), api.ErrNone, []string{"b"}, "b: error 14"},
		{"Wrap of New", fault.Wrap(fault.New(api.ErrNone, "b"), "a"), api.ErrNone, []string{"a", "b"}, "a: b: error 14"},
		{"three deep", fault.Wrap(fault.Wrap(fault.New(api.ErrFull, "c"), "b"), "a"), api.ErrFull, []string{"a", "b", "c"}, "a: b: c: error 19"},
		{"one where twice", fault.Wrap(fault.New(api.ErrFull, "a"), "a"), api.ErrFull, []string{"a", "a"}, "a: a: error 19"},
		{"no where", fault.New(api.ErrLine, ""), api.ErrLine, []string{""}, ": error 25"},
		{"no wheres", fault.Wrap(fault.New(api.ErrLine, ""), ""), api.ErrLine, []string{"", ""}, ": : error 25"},
		{"odd wheres", fault.Wrap(fault.New(api.ErrForm, "b: c"), "\xff\x00é"), api.ErrForm, []string{"\xff\x00é", "b: c"}, "\xff\x00é: b: c: error 10"},
		{"below nought", fault.New(-5, "a"), -5, []string{"a"}, "a: error -5"},

		{"a number", api.ErrShort, api.ErrShort, nil, "error 11"},
		{"a number, OK", api.OK, api.OK, nil, "error 0"},
		{"Wrap of a number", fault.Wrap(api.ErrShort, "a"), api.ErrShort, []string{"a"}, "a: error 11"},
		{"Wrap of the number OK", fault.Wrap(api.OK, "a"), api.OK, []string{"a"}, "a: error 0"},
		{"a pointer to a number", &number, api.ErrForm, nil, "error 14"},

		{"plain", plain, api.ErrForm, nil, "plain"},
		{"Wrap of plain", fault.Wrap(plain, "a"), api.ErrForm, []string{"a"}, "a: plain"},
		{"Wrap of Wrap of plain", fault.Wrap(fault.Wrap(plain, "b"), "a"), api.ErrForm, []string{"a", "b"}, "a: b: plain"},
		{"Wrap of an error without a text", fault.Wrap(errors.New(""), "a"), api.ErrForm, []string{"a"}, "a: "},

		{"outer", outer{plain}, api.ErrForm, nil, "outer(plain)"},
		{"Wrap of outer", fault.Wrap(outer{plain}, "a"), api.ErrForm, []string{"a"}, "a: outer(plain)"},
		{"outer of a number", outer{api.ErrSpent}, api.ErrSpent, nil, "outer(error 18)"},
		{"Wrap of outer of a number", fault.Wrap(outer{api.ErrSpent}, "a"), api.ErrSpent, []string{"a"}, "a: error 18"},
		{"outer of New", outer{fault.New(api.ErrSpent, "b")}, api.ErrSpent, []string{"b"}, "outer(b: error 18)"},
		{"Wrap of outer of New", fault.Wrap(outer{fault.New(api.ErrSpent, "b")}, "a"), api.ErrSpent, []string{"a", "b"}, "a: b: error 18"},
		{"outer by fmt", fmt.Errorf("far %w", fault.New(api.ErrSpent, "b")), api.ErrSpent, []string{"b"}, "far b: error 18"},
		{"posing", fault.Wrap(posing{}, "a"), api.ErrClash, []string{"a"}, "a: error 15"},

		{"many numbers", many{api.ErrFull, api.ErrNone}, api.ErrFull, nil, "many"},
		{"Wrap of many numbers", fault.Wrap(many{plain, api.ErrFull, api.ErrNone}, "a"), api.ErrFull, []string{"a"}, "a: error 19"},
		{"Wrap of many New", fault.Wrap(many{fault.New(api.ErrFull, "b"), fault.New(api.ErrNone, "c")}, "a"), api.ErrFull, []string{"a", "b"}, "a: b: error 19"},
		{"Wrap of many plain", fault.Wrap(many{plain, plain}, "a"), api.ErrForm, []string{"a"}, "a: many"},
		{"Wrap of many of none", fault.Wrap(many{}, "a"), api.ErrForm, []string{"a"}, "a: many"},
		{"joined", errors.Join(plain, fault.New(api.ErrBusy, "b"), api.ErrNone), api.ErrBusy, []string{"b"}, "plain\nb: error 20\nerror 14"},
	}
}

// P3.1
func TestNew(t *testing.T) {
	for _, where := range []string{"", "b", "b: c", strings.Repeat("w", 1000)} {
		if err := fault.New(api.OK, where); err != nil {
			t.Errorf("P3.1: New(OK, %q): %#v", where, err)
		}
		for _, code := range codes() {
			err := fault.New(code, where)
			if err == nil || !errors.Is(err, code) || errors.Is(err, api.OK) || errors.Is(err, code+1) || errors.Unwrap(err) != error(code) {
				t.Errorf("P3.1: New(%d, %q): %#v", code, where, err)
			}
			var got api.Errno
			if !errors.As(err, &got) || got != code || fault.Code(err) != code || !slices.Equal(fault.Where(err), []string{where}) {
				t.Errorf("P3.1: New(%d, %q): %#v", code, where, err)
			}
			if want := fmt.Sprintf("%s: error %d", where, int(code)); err.Error() != want {
				t.Errorf("P3.1: New(%d, %q): %q", code, where, err)
			}
		}
	}
}

// P3.1
func TestWrap(t *testing.T) {
	if err := fault.Wrap(nil, "a"); err != nil {
		t.Errorf("P3.1: Wrap(nil): %#v", err)
	}
	for _, c := range table() {
		if _, odd := c.err.(many); odd || c.err == nil { // many can't be compared by the test either
			continue
		}
		err := fault.Wrap(c.err, "w")
		if err == nil || !errors.Is(err, c.err) || errors.Unwrap(err) != c.err || errors.Is(c.err, err) {
			t.Errorf("P3.1: Wrap of %s: %#v", c.name, err)
		}
		if fault.Code(err) != c.code || !slices.Equal(fault.Where(err), append([]string{"w"}, c.wheres...)) {
			t.Errorf("P3.1: Wrap of %s: %d, %q", c.name, fault.Code(err), fault.Where(err))
		}
	}
}

// P3.1
func TestCode(t *testing.T) {
	for _, c := range table() {
		if got := fault.Code(c.err); got != c.code {
			t.Errorf("P3.1: Code of %s: %d", c.name, got)
		}
	}
}

// P3.1: none, if what errors.As finds is no Fault.
func TestWhere(t *testing.T) {
	for _, c := range table() {
		if got := fault.Where(c.err); !slices.Equal(got, c.wheres) {
			t.Errorf("P3.1: Where of %s: %q", c.name, got)
		}
	}
}

// P3.1
func TestText(t *testing.T) {
	for _, c := range table() {
		if c.err != nil && c.err.Error() != c.text {
			t.Errorf("P3.1: text of %s: %q", c.name, c.err)
		}
	}
}

// P3.1: by Code alone: of ErrForm is also what has no number, and of OK never nil.
func TestIs(t *testing.T) {
	for _, c := range table() {
		for _, code := range append(codes(), api.OK) {
			if want := c.err != nil && code == c.code; fault.Is(c.err, code) != want {
				t.Errorf("P3.1: Is of %s, %d: %v", c.name, code, !want)
			}
		}
	}
	for i, c := range []struct {
		err  error
		code api.Errno
		want bool
	}{
		{nil, api.OK, false}, {nil, api.ErrForm, false}, {fault.New(api.OK, "a"), api.OK, false},
		{plain, api.ErrForm, true}, {plain, api.OK, false}, {fault.Wrap(plain, "a"), api.ErrForm, true},
		{fault.Wrap(api.OK, "a"), api.OK, true}, {api.OK, api.OK, true},
		{many{api.ErrFull, api.ErrNone}, api.ErrFull, true}, {many{api.ErrFull, api.ErrNone}, api.ErrNone, false},
		{fault.New(api.ErrFull, "a"), api.ErrFull, true}, {fault.New(api.ErrFull, "a"), api.ErrForm, false},
	} {
		if fault.Is(c.err, c.code) != c.want {
			t.Errorf("P3.1: Is, row %d: %v", i, !c.want)
		}
	}
}

// P3.1: errors.Is finds each of what is wrapped, and goes no way back; what can't be compared doesn't hinder.
func TestCompared(t *testing.T) {
	for _, c := range table() {
		if c.err == nil {
			continue
		}
		layers := []error{fault.Wrap(c.err, "w")}
		for range 3 {
			layers = append(layers, fault.Wrap(layers[len(layers)-1], "w"))
		}
		for i, a := range layers {
			for j, b := range layers {
				if errors.Is(a, b) != (i >= j) || (a == b) != (i == j) {
					t.Errorf("P3.1: %s: layer %d, layer %d: %v", c.name, i, j, errors.Is(a, b))
				}
			}
		}
		if again := fault.Wrap(c.err, "v"); errors.Is(again, layers[0]) || errors.Is(layers[0], again) {
			t.Errorf("P3.1: %s: two that wrap it at unlike places are one", c.name)
		}
	}
}

// P3.1: a Fault is an error, and says what it wraps.
func TestFault(t *testing.T) {
	var _ interface {
		error
		Unwrap() error
	} = fault.Fault{}
	inner := fault.New(api.ErrNone, "b")
	var f *fault.Fault
	if err := fault.Wrap(inner, "a"); !errors.As(err, &f) || error(f) != err || f.Unwrap() != inner || f.Error() != "a: b: error 14" {
		t.Errorf("P3.1: %#v", f)
	}
	if zero := new(fault.Fault); zero.Unwrap() != nil || zero.Error() != ": " || fault.Code(zero) != api.ErrForm {
		t.Errorf("P3.1: a Fault of nothing: %q", zero)
	}
}

// P3.1: no call panics, whatever an error from outside does, or if there is none where one seems to be.
func TestNoPanic(t *testing.T) {
	var none *fault.Fault
	for name, err := range map[string]error{"rude": rude{}, "outer of rude": outer{rude{}}, "no Fault": none} {
		wrapped := fault.Wrap(fault.Wrap(err, "b"), "a")
		if fault.Code(err) != api.ErrForm || fault.Code(wrapped) != api.ErrForm || !fault.Is(wrapped, api.ErrForm) || fault.Is(err, api.OK) {
			t.Errorf("P3.1: Code of %s: %d, %d", name, fault.Code(err), fault.Code(wrapped))
		}
		if got := fault.Where(wrapped); len(fault.Where(err)) != 0 || !slices.Equal(got, []string{"a", "b"}) {
			t.Errorf("P3.1: Where of %s: %q", name, got)
		}
		if got := wrapped.Error(); got != "a: b: " {
			t.Errorf("P3.1: text of %s: %q", name, got)
		}
	}
}

// P3.1: no two answers of Where share memory, their spare room included, and none is the error's own.
func TestMemory(t *testing.T) {
	err := fault.New(api.ErrNone, "e")
	for _, where := range []string{"d", "c", "b", "a"} {
		err = fault.Wrap(err, where)
	}
	first, second := fault.Where(err), fault.Where(err)
	first = first[:cap(first)]
	for i := range first {
		first[i] = "spoilt"
	}
	want := []string{"a", "b", "c", "d", "e"}
	if !slices.Equal(second, want) || !slices.Equal(fault.Where(err), want) || err.Error() != "a: b: c: d: e: error 14" {
		t.Errorf("P3.1: spoilt: %q, %q", second, err)
	}
}

// P3.1: as deep as the document's bound.
func TestDeep(t *testing.T) {
	const deep = 1 << 16
	err := fault.New(api.ErrNone, "w")
	for range deep - 1 {
		err = fault.Wrap(err, "w")
	}
	if len(fault.Where(err)) != deep || !fault.Is(err, api.ErrNone) || !errors.Is(err, api.ErrNone) {
		t.Errorf("P3.1: %d wheres, %d", len(fault.Where(err)), fault.Code(err))
	}
	if err.Error() != strings.Repeat("w: ", deep)+"error 14" {
		t.Error("P3.1: the text of a deep one")
	}
}

// chain: an error of some layers, and what the document's words make of it; own: the text of what the innermost Fault wraps, or of all, where there is none.
type chain struct {
	told
	own string
}

// wrapped: by Wrap: one more where, and nothing else is new.
func (c chain) wrapped(where string) chain {
	wheres, last := append([]string{where}, c.wheres...), c.own
	if c.code != api.ErrForm {
		last = c.code.Error()
	}
	text := strings.Join(append(slices.Clone(wheres), last), ": ")
	return chain{told{"Wrap of " + c.name, fault.Wrap(c.err, where), c.code, wheres, text}, c.own}
}

// within: by an error from outside: its text is new, but its own one only where no Fault is below.
func (c chain) within(name string, err error, code api.Errno) chain {
	if len(c.wheres) == 0 {
		c.own = err.Error()
	}
	return chain{told{name + " of " + c.name, err, code, c.wheres, err.Error()}, c.own}
}

// layers: one more layer of each sort; what has no number gives way to the one behind it.
func (c chain) layers() []chain {
	code := c.code
	if code == api.ErrForm {
		code = api.ErrLine
	}
	return []chain{
		c.wrapped(""), c.wrapped("a"),
		c.within("outer", outer{c.err}, c.code),
		c.within("many", many{plain, c.err, api.ErrLine}, code),
	}
}

// P3.2: whatever is wrapped around an error, in whatever order, it is told by what is wrapped.
func TestToldByWhatItWraps(t *testing.T) {
	all := []chain{
		{told{"a number", api.ErrMoved, api.ErrMoved, nil, "error 17"}, "error 17"},
		{told{"plain", plain, api.ErrForm, nil, "plain"}, "plain"},
		{told{"New", fault.New(api.ErrSplit, "n"), api.ErrSplit, []string{"n"}, "n: error 16"}, "error 16"},
		{told{"Wrap of plain", fault.Wrap(plain, "p"), api.ErrForm, []string{"p"}, "p: plain"}, "plain"},
	}
	last := all
	for range 4 {
		var next []chain
		for _, c := range last {
			next = append(next, c.layers()...)
		}
		all, last = append(all, next...), next
	}
	for _, c := range all {
		if got := fault.Code(c.err); got != c.code || !fault.Is(c.err, c.code) || fault.Is(c.err, c.code+1) {
			t.Errorf("P3.2: %s: Code %d, not %d", c.name, got, c.code)
		}
		if got := fault.Where(c.err); !slices.Equal(got, c.wheres) {
			t.Errorf("P3.2: %s: Where %q, not %q", c.name, got, c.wheres)
		}
		if c.code != api.ErrForm && !errors.Is(c.err, c.code) {
			t.Errorf("P3.2: %s: errors.Is doesn't find %d", c.name, c.code)
		}
		if got := c.err.Error(); got != c.text {
			t.Errorf("P3.2: %s: %q, not %q", c.name, got, c.text)
		}
	}
}
