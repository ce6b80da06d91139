package op_test

import (
	"errors"
	"maps"
	"math"
	"reflect"
	"slices"
	"strings"
	"testing"

	"estuary/api"
	"estuary/fault"
	"estuary/op"
	"estuary/pack"
)

const bound = 1 << 48 // the first number that isn't taken

var (
	longest   = strings.Repeat("k", api.MaxKey)
	tooLong   = strings.Repeat("k", api.MaxKey+1)
	wide      = strings.Repeat("v", 40)
	tooWide   = strings.Repeat("v", 41)
	longText  = strings.Repeat("t", 255)
	largeText = strings.Repeat("t", 256)
)

func put(k, v string) api.Write { return api.Write{Key: k, Value: v} }

func del(k string) api.Write { return api.Write{Key: k, Del: true} }

func writes(l ...api.Write) []api.Write { return l }

func batch(l ...api.Write) api.Op { return api.Op{Kind: api.OBatch, Writes: l} }

func row(k, v string, n int) api.Row { return api.Row{Key: k, Value: v, Version: n} }

func rows(n int) []api.Row {
	var l []api.Row
	for i := range n {
		l = append(l, row(strings.Repeat("r", i), strings.Repeat("\xff", 255-i), i<<40))
	}
	return l
}

// lists: of writes: good ones, those at an edge, wrong ones.
func lists() [][]api.Write {
	return [][]api.Write{
		nil, {}, {put("a", "")}, {put("a", "v")}, {del("a")}, {put(longest, wide)}, {put("\x00", "\x00")},
		{put("", "v")}, {put(tooLong, "v")}, {put("a", tooWide)}, {{Key: "a", Value: "v", Del: true}}, {del("")}, {{}},
		{put("a", "v"), del("b")}, {del("a"), put("a\x00", wide)}, {put("Z", "v"), put("a", "v"), put("\xff", "v")},
		{put("b", "v"), put("a", "v")}, {put("a", "v"), put("a", "v")}, {put("a", "v"), del("a")}, {put("a", "v"), put("", "v")},
		{put("a", "v"), put("c", "v"), put("b", "v")}, {put("a", "v"), put("b", "v"), put("b", "w")},
		{put("a", "1"), put("b", "2"), put("c", "3"), put("d", "4")}, {put("a", "1"), put("b", "2"), put("c", "3"), put("d", tooWide)},
		{put("a", "1"), put("b", "2"), put("c", "3"), put("d", "4"), put("e", "5")}, {del("a"), del("b"), del("c"), del("d"), del("e")},
	}
}

// ops: of all Kinds and wrong ones, with all sorts of parts.
func ops() []api.Op {
	var all []api.Op
	for kind := -1; kind <= 8; kind++ {
		for _, key := range []string{"", "b", "\x00", longest, tooLong} {
			for _, to := range []string{"", "a", "b", "b\x00", "l", tooLong} {
				for _, value := range []string{"", "v", wide, tooWide} {
					for _, version := range []int{math.MinInt, -1, 0, 1, api.MaxHistory, api.MaxHistory + 1, api.MaxRev, api.MaxRev + 1} {
						for _, l := range lists() {
							all = append(all, api.Op{Kind: kind, Key: key, To: to, Value: value, Version: version, Writes: l})
						}
					}
				}
			}
		}
	}
	return append(all, api.Op{Kind: math.MinInt}, api.Op{Kind: math.MaxInt, Key: "a"}, api.Op{Kind: 257, Key: "a"})
}

// goodOps: those of ops that are good.
func goodOps() []api.Op {
	return slices.DeleteFunc(ops(), func(o api.Op) bool { return !isOp(o) })
}

// isOp: the document's words once more, part by part instead of Kind by Kind.
func isOp(o api.Op) bool {
	isKey := func(k string) bool { return len(k) >= 1 && len(k) <= 8 }
	kind := o.Kind >= 1 && o.Kind <= 7
	key := isKey(o.Key) != (o.Kind == api.OBatch) && len(o.Key) <= 8
	to := o.To == "" || o.Kind == api.ORange && len(o.To) <= 8 && strings.Compare(o.Key, o.To) < 0
	value := o.Value == "" || (o.Kind == api.OPut || o.Kind == api.OCas) && len(o.Value) < 41
	most := map[int]int{api.OCas: 1000000000000, api.OCompact: 24}[o.Kind]
	version := o.Version >= 0 && o.Version <= most
	number := len(o.Writes) == 0 && o.Kind != api.OBatch || len(o.Writes) >= 1 && len(o.Writes) <= 4 && o.Kind == api.OBatch
	each := !slices.ContainsFunc(o.Writes, func(w api.Write) bool {
		return !isKey(w.Key) || len(w.Value) > 40 || w.Del && len(w.Value) > 0
	})
	keys := map[string]int{}
	for i, w := range o.Writes {
		keys[w.Key] = i
	}
	rising := len(keys) == len(o.Writes)
	for i, k := range slices.Sorted(maps.Keys(keys)) {
		rising = rising && keys[k] == i
	}
	return kind && key && to && value && version && number && each && rising
}

// answers: good ones.
func answers() []api.Answer {
	return []api.Answer{
		{}, {Code: 14}, {Code: int(api.ErrMoved), Version: 7}, {Value: "v", Version: 1}, {Value: longText, Version: bound - 1, Code: bound - 1},
		{Rows: []api.Row{}}, {Rows: []api.Row{{}}}, {Rows: []api.Row{row("a", "v", 1), row("a", "v", 1), row("", "", 0)}}, {Rows: []api.Row{row(longText, longText, bound-1)}},
		{Value: "\x00\xff", Rows: rows(2)}, {Rows: rows(api.MaxRows - 1)}, {Code: 64, Value: "v", Version: api.MaxRev, Rows: rows(api.MaxRows)},
	}
}

// wrongAnswers: each but for one part good.
func wrongAnswers() []api.Answer {
	last := rows(api.MaxRows)
	last[api.MaxRows-1].Version = -1
	return []api.Answer{
		{Code: -1}, {Code: bound}, {Code: math.MinInt}, {Code: math.MaxInt}, {Version: -1}, {Version: bound}, {Version: math.MinInt}, {Version: math.MaxInt}, {Value: largeText},
		{Rows: rows(api.MaxRows + 1)}, {Rows: make([]api.Row, 300)}, {Rows: last}, {Rows: []api.Row{row("a", "v", -1)}}, {Rows: []api.Row{row("a", "v", bound)}},
		{Rows: []api.Row{row(largeText, "v", 1)}}, {Rows: []api.Row{row("a", largeText, 1)}}, {Rows: []api.Row{row("a", "v", 1), row("b", largeText, 1)}},
	}
}

// field: how a part is packed; many says at most how many of the inner ones are behind it.
type field struct {
	sort  byte
	most  int
	inner string
}

func fieldsOf(sorts string, most int, inner string) []field {
	var all []field
	for i := range len(sorts) {
		all = append(all, field{sort: sorts[i]})
	}
	return append(all, field{'m', most, inner})
}

// unpacked: the document's words of reading once more, by a list of what is there instead of part by part.
func unpacked(s string, want []field) ([]any, string, api.Errno) {
	var got []any
	rest := s
	for len(want) > 0 {
		f := want[0]
		want = want[1:]
		var part any
		var err error
		switch f.sort {
		case 't':
			part, rest, err = pack.TakeText(rest, 255)
		case 'f':
			part, rest, err = pack.TakeFlag(rest)
		default:
			part, rest, err = pack.Take(rest)
		}
		if err != nil {
			return nil, s, fault.Code(err)
		}
		if f.sort == 'm' {
			if part.(int) > f.most {
				return nil, s, api.ErrLarge
			}
			for range part.(int) * len(f.inner) {
				want = append(want, field{sort: f.inner[len(want)%len(f.inner)]})
			}
		}
		got = append(got, part)
	}
	return got, rest, api.OK
}

// opRead: likewise of Read.
func opRead(s string) (api.Op, string, api.Errno) {
	l, rest, code := unpacked(s, fieldsOf("ntttn", 4, "ttf"))
	if code != api.OK {
		return api.Op{}, s, code
	}
	o := api.Op{Kind: l[0].(int), Key: l[1].(string), To: l[2].(string), Value: l[3].(string), Version: l[4].(int)}
	for w := range slices.Chunk(l[6:], 3) {
		o.Writes = append(o.Writes, api.Write{Key: w[0].(string), Value: w[1].(string), Del: w[2].(bool)})
	}
	if !isOp(o) {
		return api.Op{}, s, api.ErrForm
	}
	return o, rest, api.OK
}

// answerRead: likewise of ReadAnswer.
func answerRead(s string) (api.Answer, string, api.Errno) {
	l, rest, code := unpacked(s, fieldsOf("ntn", 16, "ttn"))
	if code != api.OK {
		return api.Answer{}, s, code
	}
	a := api.Answer{Code: l[0].(int), Value: l[1].(string), Version: l[2].(int)}
	for r := range slices.Chunk(l[4:], 3) {
		a.Rows = append(a.Rows, row(r[0].(string), r[1].(string), r[2].(int)))
	}
	return a, rest, api.OK
}

// packed: bytes of an op, be it good or not.
func packed(o api.Op) string {
	s := pack.Num(o.Kind) + pack.Text(o.Key) + pack.Text(o.To) + pack.Text(o.Value) + pack.Num(o.Version) + pack.Num(len(o.Writes))
	for _, w := range o.Writes {
		s += pack.Text(w.Key) + pack.Text(w.Value) + pack.Flag(w.Del)
	}
	return s
}

// packedAnswer: likewise.
func packedAnswer(a api.Answer) string {
	s := pack.Num(a.Code) + pack.Text(a.Value) + pack.Num(a.Version) + pack.Num(len(a.Rows))
	for _, r := range a.Rows {
		s += pack.Text(r.Key) + pack.Text(r.Value) + pack.Num(r.Version)
	}
	return s
}

// sameOp, sameAnswer: nil lists and empty ones are the same, all else is as it is.
func sameOp(a, b api.Op) bool {
	if len(a.Writes) == 0 && len(b.Writes) == 0 {
		a.Writes, b.Writes = nil, nil
	}
	return reflect.DeepEqual(a, b)
}

func sameAnswer(a, b api.Answer) bool {
	if len(a.Rows) == 0 && len(b.Rows) == 0 {
		a.Rows, b.Rows = nil, nil
	}
	return reflect.DeepEqual(a, b)
}

// isCode: whether err is what the document means by an error with this Code.
func isCode(err error, code api.Errno) bool {
	if code == api.OK {
		return err == nil
	}
	if err == nil || fault.Code(err) != code || errors.Unwrap(err) == nil || !strings.HasSuffix(err.Error(), code.Error()) {
		return false
	}
	for c := api.OK; c <= api.ErrLine; c++ {
		if errors.Is(err, c) != (c == code) {
			return false
		}
	}
	return true
}

// checkRead: whether Read tells just what the document's words tell of s.
func checkRead(t *testing.T, s string) {
	t.Helper()
	o, rest, err := op.Read(s)
	if wo, wrest, code := opRead(s); !sameOp(o, wo) || rest != wrest || !isCode(err, code) {
		t.Fatalf("P6.2: Read(%.200q): %v, %.50q, %v; not %v, %.50q, %d", s, o, rest, err, wo, wrest, code)
	}
}

// checkReadAnswer: likewise.
func checkReadAnswer(t *testing.T, s string) {
	t.Helper()
	a, rest, err := op.ReadAnswer(s)
	if wa, wrest, code := answerRead(s); !sameAnswer(a, wa) || rest != wrest || !isCode(err, code) {
		t.Fatalf("P6.2: ReadAnswer(%.200q): %v, %.50q, %v; not %v, %.50q, %d", s, a, rest, err, wa, wrest, code)
	}
}

// P6.1
func TestIs(t *testing.T) {
	for _, c := range []struct {
		o    api.Op
		want bool
	}{
		{api.Op{}, false}, {api.Op{Key: "a"}, false}, {api.Op{Kind: -1, Key: "a"}, false}, {api.Op{Kind: api.OCompact + 1, Key: "a"}, false},
		{api.Op{Kind: api.OGet, Key: "a"}, true}, {api.Op{Kind: api.OGet, Key: longest}, true}, {api.Op{Kind: api.OGet, Key: "a", Writes: []api.Write{}}, true},
		{api.Op{Kind: api.OGet}, false}, {api.Op{Kind: api.OGet, Key: tooLong}, false}, {api.Op{Kind: api.OGet, Key: "a", To: "b"}, false}, {api.Op{Kind: api.OGet, Key: "a", Value: "v"}, false},
		{api.Op{Kind: api.OGet, Key: "a", Version: 1}, false}, {api.Op{Kind: api.OGet, Key: "a", Version: -1}, false}, {api.Op{Kind: api.OGet, Key: "a", Writes: writes(del("a"))}, false},
		{api.Op{Kind: api.OPut, Key: "a"}, true}, {api.Op{Kind: api.OPut, Key: "a", Value: wide}, true}, {api.Op{Kind: api.OPut, Key: "a", Value: "\x00\xff"}, true},
		{api.Op{Kind: api.OPut, Value: "v"}, false}, {api.Op{Kind: api.OPut, Key: tooLong, Value: "v"}, false}, {api.Op{Kind: api.OPut, Key: "a", Value: tooWide}, false}, {api.Op{Kind: api.OPut, Key: "a", To: "b", Value: "v"}, false},
		{api.Op{Kind: api.OPut, Key: "a", Value: "v", Version: 1}, false}, {api.Op{Kind: api.OPut, Key: "a", Value: "v", Version: -1}, false}, {api.Op{Kind: api.OPut, Key: "a", Writes: writes(put("a", "v"))}, false},
		{api.Op{Kind: api.ODel, Key: "a"}, true}, {api.Op{Kind: api.ODel}, false}, {api.Op{Kind: api.ODel, Key: "a", Value: "v"}, false}, {api.Op{Kind: api.ODel, Key: "a", To: "b"}, false},
		{api.Op{Kind: api.ODel, Key: "a", Version: 1}, false}, {api.Op{Kind: api.ODel, Key: "a", Writes: writes(del("a"))}, false},
		{api.Op{Kind: api.OCas, Key: "a"}, true}, {api.Op{Kind: api.OCas, Key: "a", Value: wide, Version: api.MaxRev}, true}, {api.Op{Kind: api.OCas, Key: longest, Version: 25}, true},
		{api.Op{Kind: api.OCas, Value: "v"}, false}, {api.Op{Kind: api.OCas, Key: "a", Version: api.MaxRev + 1}, false}, {api.Op{Kind: api.OCas, Key: "a", Version: -1}, false}, {api.Op{Kind: api.OCas, Key: "a", Version: math.MinInt}, false},
		{api.Op{Kind: api.OCas, Key: "a", Value: tooWide, Version: 1}, false}, {api.Op{Kind: api.OCas, Key: "a", To: "b"}, false}, {api.Op{Kind: api.OCas, Key: "a", Writes: writes(put("a", "v"))}, false},
		{api.Op{Kind: api.ORange, Key: "a"}, true}, {api.Op{Kind: api.ORange, Key: "a", To: "a\x00"}, true}, {api.Op{Kind: api.ORange, Key: longest, To: "l"}, true}, {api.Op{Kind: api.ORange, Key: "a", To: longest}, true},
		{api.Op{Kind: api.ORange}, false}, {api.Op{Kind: api.ORange, To: "b"}, false}, {api.Op{Kind: api.ORange, Key: "a", To: "a"}, false}, {api.Op{Kind: api.ORange, Key: "b", To: "a"}, false}, {api.Op{Kind: api.ORange, Key: tooLong, To: "l"}, false},
		{api.Op{Kind: api.ORange, Key: "a", To: tooLong}, false}, {api.Op{Kind: api.ORange, Key: "a", To: "b", Value: "v"}, false}, {api.Op{Kind: api.ORange, Key: "a", To: "b", Version: 1}, false}, {api.Op{Kind: api.ORange, Key: "a", To: "b", Writes: writes(del("a"))}, false},
		{batch(put("a", "v")), true}, {batch(put("a", "v"), del("b")), true}, {batch(del("a"), put("b", ""), put("c", wide), put(longest, "v")), true}, {batch(put("a", "v"), put("a\x00", "v")), true},
		{batch(), false}, {batch(put("a", "1"), put("b", "2"), put("c", "3"), put("d", "4"), put("e", "5")), false}, {batch(put("a", tooWide)), false}, {batch(api.Write{Key: "a", Value: "v", Del: true}), false},
		{batch(put("b", "v"), put("a", "v")), false}, {batch(put("a", "v"), put("a", "v")), false}, {batch(put("", "v")), false}, {batch(put(tooLong, "v")), false}, {batch(put("a", "v"), put("b", "v"), del("")), false},
		{api.Op{Kind: api.OBatch, Key: "a"}, false}, {api.Op{Kind: api.OBatch, Key: "a", Writes: writes(put("a", "v"))}, false}, {api.Op{Kind: api.OBatch, Value: "v", Writes: writes(put("a", "v"))}, false},
		{api.Op{Kind: api.OBatch, To: "b", Writes: writes(put("a", "v"))}, false}, {api.Op{Kind: api.OBatch, Version: 1, Writes: writes(put("a", "v"))}, false},
		{api.Op{Kind: api.OCompact, Key: "a"}, true}, {api.Op{Kind: api.OCompact, Key: "a", Version: api.MaxHistory}, true}, {api.Op{Kind: api.OCompact, Key: "a", Version: api.MaxHistory + 1}, false}, {api.Op{Kind: api.OCompact, Key: "a", Version: -1}, false},
		{api.Op{Kind: api.OCompact, Version: 1}, false}, {api.Op{Kind: api.OCompact, Key: "a", Value: "v"}, false}, {api.Op{Kind: api.OCompact, Key: "a", To: "b"}, false}, {api.Op{Kind: api.OCompact, Key: "a", Writes: writes(del("a"))}, false},
	} {
		if got := op.Is(c.o); got != c.want || isOp(c.o) != c.want {
			t.Errorf("P6.1: Is(%+v): %v", c.o, got)
		}
	}
	kinds := map[int]int{}
	for _, o := range ops() {
		got := op.Is(o)
		if got != isOp(o) {
			t.Fatalf("P6.1: Is(%+v): %v", o, got)
		}
		if got {
			kinds[o.Kind]++
		}
	}
	if len(kinds) != 7 {
		t.Errorf("P6.1: not of all Kinds one is good: %v", kinds)
	}
}

// P6.1: by its Kind, also of what isn't Is.
func TestWrites(t *testing.T) {
	for _, o := range ops() {
		want := o.Kind != 1 && o.Kind != 5
		if got := op.Writes(o); got != want {
			t.Fatalf("P6.1: Writes(%+v): %v", o, got)
		}
	}
}

// P6.1
func TestKey(t *testing.T) {
	for _, c := range []struct {
		o    api.Op
		want string
	}{
		{api.Op{}, ""}, {api.Op{Key: "a"}, "a"}, {api.Op{Kind: api.OGet, Key: "a"}, "a"}, {api.Op{Kind: api.OPut, Key: "a", Value: "v"}, "a"}, {api.Op{Kind: api.ODel, Key: tooLong}, tooLong},
		{api.Op{Kind: api.OCas, Key: "b", Writes: writes(put("a", "v"))}, "b"}, {api.Op{Kind: api.ORange, Key: "a", To: "b"}, "a"}, {api.Op{Kind: api.OCompact, Key: longest}, longest}, {api.Op{Kind: api.OGet, Writes: writes(put("a", "v"))}, ""}, {api.Op{Kind: 8, Key: "a"}, "a"},
		{batch(), ""}, {batch(put("a", "v")), "a"}, {batch(del("a"), put("b", "v")), "a"}, {batch(put("b", "v"), put("a", "v")), "b"}, {batch(put("", "v"), put("a", "v")), ""},
		{api.Op{Kind: api.OBatch, Key: "k"}, ""}, {api.Op{Kind: api.OBatch, Key: "k", Writes: writes(put("a", "v"))}, "a"},
	} {
		if got := op.Key(c.o); got != c.want {
			t.Errorf("P6.1: Key(%+v): %q", c.o, got)
		}
	}
}

// P6.1: one part that is another makes another op, whether these are Is or not.
func TestSame(t *testing.T) {
	full := api.Op{Kind: api.OBatch, Key: "k", To: "t", Value: "v", Version: 1, Writes: writes(put("a", "1"), del("b"))}
	unlike := []api.Op{full, {}, batch(), {Key: "k"}, {To: "k"}, {Value: "k"}, {Kind: 1}, {Version: 1}, batch(put("a", "1"), del("b"))}
	for _, change := range []func(*api.Op){
		func(o *api.Op) { o.Kind = api.OPut }, func(o *api.Op) { o.Key = "K" }, func(o *api.Op) { o.To = "" }, func(o *api.Op) { o.Value = "v\x00" }, func(o *api.Op) { o.Version = -1 },
		func(o *api.Op) { o.Writes = nil }, func(o *api.Op) { o.Writes = writes(put("a", "1")) }, func(o *api.Op) { o.Writes = writes(put("a", "1"), del("b"), put("", "")) }, func(o *api.Op) { o.Writes = writes(del("b"), put("a", "1")) },
		func(o *api.Op) { o.Writes = writes(put("A", "1"), del("b")) }, func(o *api.Op) { o.Writes = writes(put("a", "2"), del("b")) }, func(o *api.Op) { o.Writes = writes(put("a", "1"), put("b", "")) },
	} {
		o := full
		change(&o)
		unlike = append(unlike, o)
	}
	for i, a := range unlike {
		for j, b := range unlike {
			b.Writes = slices.Clone(b.Writes)
			if got := op.Same(a, b); got != (i == j) {
				t.Errorf("P6.1: Same(%+v, %+v): %v", a, b, got)
			}
		}
	}
	if !op.Same(api.Op{Writes: nil}, api.Op{Writes: []api.Write{}}) || !op.Same(api.Op{Writes: []api.Write{}}, api.Op{Writes: nil}) {
		t.Error("P6.1: Same: a nil list isn't an empty one")
	}
}

// P6.1: likewise.
func TestSameAnswer(t *testing.T) {
	full := api.Answer{Code: 1, Value: "v", Version: 2, Rows: []api.Row{row("a", "1", 1), row("b", "2", 2)}}
	unlike := []api.Answer{full, {}, {Code: 1}, {Version: 1}, {Value: "1"}, {Rows: []api.Row{{}}}, {Rows: []api.Row{{}, {}}}}
	for _, change := range []func(*api.Answer){
		func(a *api.Answer) { a.Code = -1 }, func(a *api.Answer) { a.Value = "" }, func(a *api.Answer) { a.Version = 3 }, func(a *api.Answer) { a.Rows = nil }, func(a *api.Answer) { a.Rows = a.Rows[:1] },
		func(a *api.Answer) { a.Rows = []api.Row{row("b", "2", 2), row("a", "1", 1)} }, func(a *api.Answer) { a.Rows = []api.Row{row("a", "1", 1), row("B", "2", 2)} },
		func(a *api.Answer) { a.Rows = []api.Row{row("a", "1", 1), row("b", "3", 2)} }, func(a *api.Answer) { a.Rows = []api.Row{row("a", "1", 1), row("b", "2", 3)} },
	} {
		a := full
		change(&a)
		unlike = append(unlike, a)
	}
	for i, a := range unlike {
		for j, b := range unlike {
			b.Rows = slices.Clone(b.Rows)
			if got := op.SameAnswer(a, b); got != (i == j) {
				t.Errorf("P6.1: SameAnswer(%+v, %+v): %v", a, b, got)
			}
		}
	}
	if !op.SameAnswer(api.Answer{Rows: nil}, api.Answer{Rows: []api.Row{}}) || !op.SameAnswer(api.Answer{Rows: []api.Row{}}, api.Answer{Rows: nil}) {
		t.Error("P6.1: SameAnswer: a nil list isn't an empty one")
	}
}

// P6.2
func TestBytes(t *testing.T) {
	for _, c := range []struct {
		o    api.Op
		want string
	}{
		{api.Op{Kind: api.OGet, Key: "a"}, "\x01\x01a\x00\x00\x00\x00"},
		{api.Op{Kind: api.OPut, Key: "reed", Value: "v\x00"}, "\x02\x04reed\x00\x02v\x00\x00\x00"},
		{api.Op{Kind: api.ODel, Key: longest}, "\x03\x08" + longest + "\x00\x00\x00\x00"},
		{api.Op{Kind: api.OCas, Key: "a", Value: wide, Version: 64}, "\x04\x01a\x00\x28" + wide + "\x40\x01\x00"},
		{api.Op{Kind: api.ORange, Key: "a", To: "b"}, "\x05\x01a\x01b\x00\x00\x00"},
		{batch(put("a", "1"), del("b")), "\x06\x00\x00\x00\x00\x02\x01a\x011\x00\x01b\x00\x01"},
		{api.Op{Kind: api.OCompact, Key: "a", Version: 24}, "\x07\x01a\x00\x00\x18\x00"},
		{api.Op{}, ""}, {api.Op{Kind: api.OGet}, ""}, {api.Op{Kind: api.OPut, Key: "a", Value: tooWide}, ""}, {batch(), ""}, {api.Op{Kind: 8, Key: "a"}, ""},
	} {
		if got := op.Bytes(c.o); got != c.want {
			t.Errorf("P6.2: Bytes(%+v): %q", c.o, got)
		}
	}
	for _, o := range ops() {
		want := ""
		if isOp(o) {
			want = packed(o)
		}
		if got := op.Bytes(o); got != want {
			t.Fatalf("P6.2: Bytes(%+v): %q", o, got)
		}
	}
}

// P6.2: a row an error, and those where several apply: the first one is told.
func TestReadErrors(t *testing.T) {
	get := "\x01\x01a\x00\x00\x00"
	five := "\x01a\x00\x00\x01b\x00\x00\x01c\x00\x00\x01d\x00\x00\x01e\x00\x00"
	for _, c := range []struct {
		s    string
		code api.Errno
	}{
		{"", api.ErrShort}, {"\x01", api.ErrShort}, {"\x40", api.ErrShort}, {"\x01\x01", api.ErrShort}, {get, api.ErrShort}, {"\x08", api.ErrShort}, {"\x00\x00\x00\x00\x00", api.ErrShort}, {"\x06\x00\x00\x00\x00\x01\x01a\x00", api.ErrShort}, {get + "\x01", api.ErrShort}, {get + "\x04", api.ErrShort},
		{"\x80", api.ErrForm}, {"\x41\x00", api.ErrForm}, {"\x01\x80", api.ErrForm}, {get + "\x80", api.ErrForm}, {get[:5] + "\x80\x00", api.ErrForm}, {"\x06\x00\x00\x00\x00\x01\x01a\x00\x02", api.ErrForm}, {"\x40\x40\x40\x40\x40\x40\x40\x40", api.ErrForm},
		{"\x01" + pack.Text(largeText), api.ErrLarge}, {"\x01" + pack.Num(256), api.ErrLarge}, {"\x01" + pack.Num(255), api.ErrShort}, {"\x01\x01a" + pack.Num(256), api.ErrLarge}, {"\x01\x01a\x00" + pack.Num(256), api.ErrLarge}, {"\x06\x00\x00\x00\x00\x01" + pack.Num(256), api.ErrLarge}, {"\x06\x00\x00\x00\x00\x01\x01a" + pack.Num(256), api.ErrLarge},
		{"\x06\x00\x00\x00\x00\x05", api.ErrLarge}, {"\x06\x00\x00\x00\x00\x05" + five, api.ErrLarge}, {get + "\x05", api.ErrLarge}, {"\x00\x00\x00\x00\x00\x05", api.ErrLarge}, {get + pack.Num(bound-1), api.ErrLarge}, {"\x06\x00\x00\x00\x00\x05\x80", api.ErrLarge}, {"\x06\x00\x00\x00\x00\x04" + five[:15], api.ErrShort}, {"\x06\x00\x00\x00\x00\x04\x80", api.ErrForm},
		{"\x00\x00\x00\x00\x00\x00", api.ErrForm}, {"\x08\x01a\x00\x00\x00\x00", api.ErrForm}, {"\x06\x00\x00\x00\x00\x00", api.ErrForm}, {"\x01\x00\x00\x00\x00\x00", api.ErrForm}, {"\x01\x01a\x01b\x00\x00\x00", api.ErrForm}, {"\x01" + pack.Text(tooLong) + "\x00\x00\x00\x00", api.ErrForm}, {"\x01" + pack.Text(longText) + "\x00\x00\x00\x00", api.ErrForm},
		{"\x02\x01a\x00" + pack.Text(tooWide) + "\x00\x00", api.ErrForm}, {"\x02\x01a\x00" + pack.Text(longText) + "\x00\x00", api.ErrForm}, {"\x02\x01a\x00" + pack.Text(tooWide) + "\x00", api.ErrShort}, {"\x04\x01a\x00\x00" + pack.Num(api.MaxRev+1) + "\x00", api.ErrForm}, {"\x06\x00\x00\x00\x00\x02\x01b\x00\x00\x01a\x00\x00", api.ErrForm}, {"\x06\x00\x00\x00\x00\x01\x01a\x01v\x01", api.ErrForm},
	} {
		if o, rest, err := op.Read(c.s); !sameOp(o, api.Op{}) || rest != c.s || !isCode(err, c.code) {
			t.Errorf("P6.2: Read(%.50q): %v, %.50q, %v; not %d", c.s, o, rest, err, c.code)
		}
		checkRead(t, c.s)
	}
}

// P6.2: all short texts, and good bytes of all ops at whatever front; of what isn't Is, too.
func TestRead(t *testing.T) {
	for _, s := range strung("\x00\x01\x02\x06\x40\x80", 7) {
		checkRead(t, s)
	}
	for i, o := range ops() {
		if slices.Contains([]int{o.Kind, o.Version}, math.MinInt) || i%7 != 0 {
			continue
		}
		for _, tail := range []string{"", "\x00", "tail", "\x80"} {
			checkRead(t, packed(o)+tail)
		}
	}
}

// P6.2: each byte of good ones changed to each other one.
func TestChanged(t *testing.T) {
	for _, o := range []api.Op{
		{Kind: api.OGet, Key: "a"}, {Kind: api.OPut, Key: "reed", Value: "value"}, {Kind: api.OCas, Key: "a", Value: "v", Version: 4096}, {Kind: api.ORange, Key: "aa", To: "bb"},
		{Kind: api.OCompact, Key: "a", Version: 24}, batch(put("a", "1"), del("b")), batch(put("a", "1"), put("b", "2"), del("c"), put("d", wide)),
	} {
		whole := packed(o)
		for i := range len(whole) {
			for b := range 256 {
				checkRead(t, whole[:i]+string([]byte{byte(b)})+whole[i+1:]+"\x00\x00\x00")
			}
		}
	}
	for _, a := range answers()[:10] {
		whole := packedAnswer(a)
		for i := range min(len(whole), 300) {
			for b := range 256 {
				checkReadAnswer(t, whole[:i]+string([]byte{byte(b)})+whole[i+1:]+"\x00\x00\x00")
			}
		}
	}
}

// strung: all texts of 0 to n of these bytes.
func strung(bytes string, n int) []string {
	all, last := []string{""}, []string{""}
	for range n {
		var next []string
		for _, s := range last {
			for i := range len(bytes) {
				next = append(next, s+bytes[i:i+1])
			}
		}
		all, last = append(all, next...), next
	}
	return all
}

// P6.2
func TestAnswerBytes(t *testing.T) {
	for _, c := range []struct {
		a    api.Answer
		want string
	}{
		{api.Answer{}, "\x00\x00\x00\x00"}, {api.Answer{Code: 14, Version: 3}, "\x0e\x00\x03\x00"}, {api.Answer{Value: "reed", Version: 64}, "\x00\x04reed\x40\x01\x00"},
		{api.Answer{Code: bound - 1, Rows: []api.Row{row("a", "1", 1), row("", "", 0)}}, "\x7f\x7f\x7f\x7f\x7f\x7f\x7f\x3f\x00\x00\x02\x01a\x011\x01\x00\x00\x00"},
	} {
		if got := op.AnswerBytes(c.a); got != c.want {
			t.Errorf("P6.2: AnswerBytes(%+v): %q", c.a, got)
		}
	}
	for _, a := range answers() {
		if got := op.AnswerBytes(a); got != packedAnswer(a) {
			t.Errorf("P6.2: AnswerBytes(%+v): %q", a, got)
		}
	}
	for _, a := range wrongAnswers() {
		if got := op.AnswerBytes(a); got != "" {
			t.Errorf("P6.2: AnswerBytes(%+v): %q", a, got)
		}
	}
}

// P6.2: a row an error, and those where several apply: the first one is told.
func TestReadAnswerErrors(t *testing.T) {
	for _, c := range []struct {
		s    string
		code api.Errno
	}{
		{"", api.ErrShort}, {"\x00", api.ErrShort}, {"\x00\x00", api.ErrShort}, {"\x00\x00\x00", api.ErrShort}, {"\x00\x01", api.ErrShort}, {"\x00\x00\x00\x01", api.ErrShort}, {"\x00\x00\x00\x01\x00\x00", api.ErrShort}, {"\x00\x00\x00\x10", api.ErrShort}, {"\x00" + pack.Num(255), api.ErrShort},
		{"\x80", api.ErrForm}, {"\x40\x00", api.ErrForm}, {"\x00\x80", api.ErrForm}, {"\x00\x00\x80", api.ErrForm}, {"\x00\x00\x00\x80", api.ErrForm}, {"\x00\x00\x00\x10\x80", api.ErrForm}, {"\x00\x00\x00\x01\x00\x00\x80", api.ErrForm}, {pack.Num(bound) + "\x00\x00\x00", api.ErrForm}, {"\x00\x00" + pack.Num(bound) + "\x00", api.ErrForm},
		{"\x00" + pack.Num(256), api.ErrLarge}, {"\x00" + pack.Text(largeText) + "\x00\x00", api.ErrLarge}, {"\x00\x00\x00\x01" + pack.Text(largeText) + "\x00\x00", api.ErrLarge}, {"\x00\x00\x00\x01\x00" + pack.Text(largeText) + "\x00", api.ErrLarge},
		{"\x00\x00\x00\x11", api.ErrLarge}, {"\x00\x00\x00\x11" + strings.Repeat("\x00", 51), api.ErrLarge}, {"\x00\x00\x00\x11\x80", api.ErrLarge}, {"\x00\x00\x00" + pack.Num(bound-1), api.ErrLarge}, {packedAnswer(api.Answer{Rows: rows(17)}), api.ErrLarge},
	} {
		if a, rest, err := op.ReadAnswer(c.s); !sameAnswer(a, api.Answer{}) || rest != c.s || !isCode(err, c.code) {
			t.Errorf("P6.2: ReadAnswer(%.50q): %v, %.50q, %v; not %d", c.s, a, rest, err, c.code)
		}
		checkReadAnswer(t, c.s)
	}
	for _, s := range strung("\x00\x01\x02\x11\x40\x80", 7) {
		checkReadAnswer(t, s)
	}
}

// P6.2: what pack refused is told as pack tells it.
func TestErrors(t *testing.T) {
	for s, code := range map[string]api.Errno{"": api.ErrShort, "\x80": api.ErrForm, "\x01" + pack.Num(256): api.ErrLarge} {
		_, _, err := op.Read(s)
		_, _, aerr := op.ReadAnswer(s)
		var below, abelow *fault.Fault
		if !isCode(err, code) || !isCode(aerr, code) || !errors.As(err, &below) || !errors.As(aerr, &abelow) || err.Error() == aerr.Error() {
			t.Errorf("P6.2: of %q: %v, %v", s, err, aerr)
		}
	}
}

// P6.3: whatever is behind it; what is cut off is none.
func TestWrittenIsRead(t *testing.T) {
	good := goodOps()
	for _, o := range good {
		s := op.Bytes(o)
		for _, tail := range []string{"", "\x00", "\x80", "tail", s} {
			if got, rest, err := op.Read(s + tail); !op.Same(got, o) || !sameOp(got, o) || rest != tail || err != nil {
				t.Fatalf("P6.3: Read of Bytes(%+v) and %q: %+v, %q, %v", o, tail, got, rest, err)
			}
		}
		for cut := range len(s) {
			if got, rest, err := op.Read(s[:cut]); !sameOp(got, api.Op{}) || rest != s[:cut] || !isCode(err, api.ErrShort) {
				t.Fatalf("P6.3: Read of %d bytes of Bytes(%+v): %+v, %q, %v", cut, o, got, rest, err)
			}
		}
	}
	if len(good) < 100 {
		t.Errorf("P6.3: %d ops are few", len(good))
	}
}

// P6.3: likewise.
func TestWrittenAnswerIsRead(t *testing.T) {
	for _, a := range answers() {
		s := op.AnswerBytes(a)
		for _, tail := range []string{"", "\x00", "\x80", "tail", s} {
			if got, rest, err := op.ReadAnswer(s + tail); !op.SameAnswer(got, a) || !sameAnswer(got, a) || rest != tail || err != nil {
				t.Errorf("P6.3: ReadAnswer of AnswerBytes(%+v) and %q: %+v, %q, %v", a, tail, got, rest, err)
			}
		}
		for cut := range len(s) {
			if got, rest, err := op.ReadAnswer(s[:cut]); !sameAnswer(got, api.Answer{}) || rest != s[:cut] || !isCode(err, api.ErrShort) {
				t.Fatalf("P6.3: ReadAnswer of %d bytes of AnswerBytes(%+v): %+v, %q, %v", cut, a, got, rest, err)
			}
		}
	}
}

// P6.3: what is read is what would be written, so no two texts are one op.
func TestReadIsWritten(t *testing.T) {
	read := 0
	for _, s := range append(strung("\x00\x01\x02\x05\x06a", 7), strung("\x01\x03\x00a", 8)...) {
		if o, rest, err := op.Read(s); err == nil {
			read++
			if op.Bytes(o)+rest != s {
				t.Fatalf("P6.3: Bytes of what Read(%q) told: %q", s, op.Bytes(o))
			}
		}
		if a, rest, err := op.ReadAnswer(s); err == nil && op.AnswerBytes(a)+rest != s {
			t.Fatalf("P6.3: AnswerBytes of what ReadAnswer(%q) told: %q", s, op.AnswerBytes(a))
		}
	}
	if read == 0 {
		t.Error("P6.3: nothing was read")
	}
}

// P6.2: no two answers share memory, their spare room included.
func TestMemory(t *testing.T) {
	o := batch(put("a", "1"), put("b", "2"), put("c", "3"))
	first, _, _ := op.Read(op.Bytes(o))
	second, _, _ := op.Read(op.Bytes(o))
	l := first.Writes[:cap(first.Writes)]
	for i := range l {
		l[i] = put("spoilt", "spoilt")
	}
	if third, _, err := op.Read(op.Bytes(o)); !sameOp(second, o) || !sameOp(third, o) || err != nil {
		t.Errorf("P6.2: spoilt: %+v, %+v", second, third)
	}
	a := api.Answer{Rows: rows(5)}
	one, _, _ := op.ReadAnswer(op.AnswerBytes(a))
	two, _, _ := op.ReadAnswer(op.AnswerBytes(a))
	r := one.Rows[:cap(one.Rows)]
	for i := range r {
		r[i] = row("spoilt", "spoilt", -1)
	}
	if three, _, err := op.ReadAnswer(op.AnswerBytes(a)); !sameAnswer(two, a) || !sameAnswer(three, a) || err != nil {
		t.Errorf("P6.2: spoilt: %+v, %+v", two, three)
	}
}

// P6.1, P6.2: what is handed in stays as it was, the room behind it, too.
func TestHandedIn(t *testing.T) {
	l := writes(put("a", "1"), del("b"), put("c", "3"), put("spare", "room"))
	r := []api.Row{row("a", "1", 1), row("b", "2", 2), row("spare", "room", 3)}
	wl, wr := slices.Clone(l), slices.Clone(r)
	for _, kind := range []int{api.OGet, api.OBatch} {
		o := api.Op{Kind: kind, Writes: l[:3]}
		a := api.Answer{Rows: r[:2]}
		op.Is(o)
		op.Writes(o)
		op.Key(o)
		op.Same(o, o)
		op.Bytes(o)
		op.SameAnswer(a, a)
		op.AnswerBytes(a)
	}
	if !slices.Equal(l, wl) || !slices.Equal(r, wr) {
		t.Errorf("P6.1: changed: %+v, %+v", l, r)
	}
}
