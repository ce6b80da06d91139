package bag_test

import (
	"errors"
	"math"
	"reflect"
	"slices"
	"strings"
	"testing"

	"estuary/api"
	"estuary/bag"
	"estuary/fault"
)

// mark: a letter that is told from others by its number.
func mark(n int) api.Letter {
	return api.Letter{Kind: api.LMap, From: api.Sessions, To: api.Mover, N: [5]int{n}}
}

// full: a letter with all lists, and room behind each.
func full() api.Letter {
	l := api.Letter{Kind: api.LAsk, From: api.Sessions + 2, To: 1, N: [5]int{7, 0, api.MaxRev}, Span: api.Span{From: "a", To: "b"}, Data: "\x00data"}
	l.Op = api.Op{Kind: api.OBatch, Writes: slices.Grow([]api.Write{{Key: "a", Value: "v"}, {Key: "b", Del: true}}, 3)}
	l.Seen = slices.Grow([]api.Seen{{Key: "a", Version: 1}, {Key: "b"}}, 3)
	l.Events = slices.Grow([]api.Event{{Key: "b", Version: 2, Value: "v"}, {Key: "a", Version: 1, Del: true}}, 3)
	l.Places = slices.Grow([]api.Place{{ID: 1, Epoch: 2, Node: 2, Span: api.Span{To: "m"}}}, 3)
	return l
}

func answer() api.Letter {
	rows := slices.Grow([]api.Row{{Key: "a", Value: "v", Version: 3}, {}}, 3)
	return api.Letter{Kind: api.LAnswer, From: 2, To: api.Sessions, Answer: api.Answer{Code: 17, Value: "v", Version: 2, Rows: rows}}
}

// kinds: one of each Kind, and some with more.
func kinds() []api.Letter {
	all := []api.Letter{full(), answer()}
	for kind := api.LAsk; kind <= api.LCut; kind++ {
		l := api.Letter{Kind: kind, From: kind % 3, To: api.Mover, N: [5]int{0, kind}, Data: strings.Repeat("d", kind*12)}
		if kind == api.LAsk {
			l.Op = api.Op{Kind: api.OGet, Key: "k"}
		}
		all = append(all, l)
	}
	return all
}

// wrong: letters that aren't letter's Is, by a part each.
func wrong() []api.Letter {
	var all []api.Letter
	for _, by := range []func(*api.Letter){
		func(l *api.Letter) { *l = api.Letter{} }, func(l *api.Letter) { l.Kind = 0 }, func(l *api.Letter) { l.Kind = -1 }, func(l *api.Letter) { l.Kind = api.LCut + 1 },
		func(l *api.Letter) { l.From = api.MaxNodes }, func(l *api.Letter) { l.To = api.Sessions + api.MaxSessions }, func(l *api.Letter) { l.To = -1 },
		func(l *api.Letter) { l.N[4] = -1 }, func(l *api.Letter) { l.N[0] = api.MaxRev + 1 }, func(l *api.Letter) { l.Kind = api.LAsk }, func(l *api.Letter) { l.Op = api.Op{Kind: api.OGet, Key: "k"} },
		func(l *api.Letter) { l.Answer.Code = 1 }, func(l *api.Letter) { l.Kind, l.Answer.Code = api.LAnswer, -1 }, func(l *api.Letter) { l.Span = api.Span{From: "b", To: "a"} },
		func(l *api.Letter) { l.Seen = []api.Seen{{Key: "b"}, {Key: "a"}} }, func(l *api.Letter) { l.Events = make([]api.Event, 1) }, func(l *api.Letter) { l.Places = make([]api.Place, 1) }, func(l *api.Letter) { l.Data = strings.Repeat("d", 256) },
	} {
		l := mark(1)
		by(&l)
		all = append(all, l)
	}
	return all
}

// same: by what the lists hold, as a nil one and an empty one are the same.
func same(a, b api.Letter) bool {
	for _, l := range []*api.Letter{&a, &b} {
		l.Op.Writes = slices.Concat(l.Op.Writes)
		l.Answer.Rows = slices.Concat(l.Answer.Rows)
		l.Seen, l.Events, l.Places = slices.Concat(l.Seen), slices.Concat(l.Events), slices.Concat(l.Places)
	}
	return reflect.DeepEqual(a, b)
}

// isCode: whether err is what the document means by an error with this Code.
func isCode(err error, code api.Errno) bool {
	if code == api.OK {
		return err == nil
	}
	return err != nil && fault.Code(err) == code && errors.Is(err, code) && err.Error() != ""
}

// holds: whether these and no others are there, in that order.
func holds(t *testing.T, b *bag.Bag, want ...api.Letter) {
	t.Helper()
	if got := b.All(); b.Len() != len(want) || !slices.EqualFunc(got, want, same) {
		t.Fatalf("P8.1: %d: %v; not %d: %v", b.Len(), numbers(got), len(want), numbers(want))
	}
}

// numbers: the first number of each, for what a test tells.
func numbers(l []api.Letter) []int {
	var all []int
	for _, x := range l {
		all = append(all, x.N[0])
	}
	return all
}

// marks: from one number up to ahead of another one.
func marks(from, to int) []api.Letter {
	var all []api.Letter
	for n := from; n < to; n++ {
		all = append(all, mark(n))
	}
	return all
}

// of: a bag into which these were put.
func of(t *testing.T, letters ...api.Letter) *bag.Bag {
	t.Helper()
	b := bag.New()
	for _, l := range letters {
		if err := b.Put(l); err != nil {
			t.Fatalf("P8.1: Put(%+v): %v", l, err)
		}
	}
	return b
}

// taken: whether that is taken as the i-th.
func taken(t *testing.T, b *bag.Bag, i int, want api.Letter) {
	t.Helper()
	if l, err := b.Take(i); !same(l, want) || err != nil {
		t.Fatalf("P8.1: Take(%d): %+v, %v; not %+v", i, l, err, want)
	}
}

// P8.1
func TestPut(t *testing.T) {
	holds(t, bag.New())
	b := bag.New()
	for i, l := range kinds() {
		if err := b.Put(l); err != nil {
			t.Errorf("P8.1: Put(%+v): %v", l, err)
		}
		holds(t, b, kinds()[:i+1]...)
	}
	for _, l := range kinds() {
		taken(t, b, 0, l)
	}
	holds(t, b)
	holds(t, of(t, mark(1), mark(1), mark(1)), mark(1), mark(1), mark(1))
}

// P8.1: what is ill-formed isn't put, and no other one goes for it.
func TestPutWrong(t *testing.T) {
	for _, there := range [][]api.Letter{nil, {mark(5), full()}, marks(0, api.MaxLetters)} {
		b := of(t, there...)
		for _, l := range wrong() {
			if err := b.Put(l); !isCode(err, api.ErrForm) {
				t.Errorf("P8.1: Put(%+v): %v", l, err)
			}
		}
		holds(t, b, there...)
	}
}

// P8.1: the last one for which there is room, and those behind it, for which the first ones go.
func TestPutFull(t *testing.T) {
	most := api.MaxLetters
	b := of(t, marks(0, most-1)...)
	for n := most - 1; n < 2*most+2; n++ {
		if err := b.Put(mark(n)); err != nil {
			t.Fatalf("P8.1: Put of the letter %d: %v", n, err)
		}
		holds(t, b, marks(max(n+1-most, 0), n+1)...)
	}
}

// P8.1: of the first, of those between, of the last; the others keep their order.
func TestTakeAndLose(t *testing.T) {
	for _, most := range []int{1, 2, 5, api.MaxLetters} {
		for _, i := range []int{0, 1, most / 2, most - 2, most - 1} {
			if i < 0 || i >= most {
				continue
			}
			left := slices.Delete(marks(0, most), i, i+1)
			b := of(t, marks(0, most)...)
			taken(t, b, i, mark(i))
			holds(t, b, left...)
			b = of(t, marks(0, most)...)
			if err := b.Lose(i); err != nil {
				t.Errorf("P8.1: Lose(%d) of %d: %v", i, most, err)
			}
			holds(t, b, left...)
			if err := b.Put(full()); err != nil {
				t.Errorf("P8.1: Put behind Lose(%d) of %d: %v", i, most, err)
			}
			holds(t, b, append(left, full())...)
		}
	}
}

// P8.1: once more is a letter by itself, behind all.
func TestTwice(t *testing.T) {
	a, c := full(), answer()
	b := of(t, a, mark(1), c)
	for i, want := range [][]api.Letter{{a, mark(1), c, a}, {a, mark(1), c, a, mark(1)}, {a, mark(1), c, a, mark(1), c}, {a, mark(1), c, a, mark(1), c, a}} {
		if err := b.Twice(i); err != nil {
			t.Errorf("P8.1: Twice(%d): %v", i, err)
		}
		holds(t, b, want...)
	}
	taken(t, b, 0, a)
	if err := b.Lose(2); err != nil {
		t.Errorf("P8.1: Lose(2): %v", err)
	}
	holds(t, b, mark(1), c, mark(1), c, a)
	taken(t, b, 4, a)
}

// P8.1: other than with Put none goes where there is no room.
func TestTwiceFull(t *testing.T) {
	most := api.MaxLetters
	b := of(t, marks(0, most-1)...)
	if err := b.Twice(most - 2); err != nil {
		t.Errorf("P8.1: the last one for which there is room: %v", err)
	}
	want := append(marks(0, most-1), mark(most-2))
	for _, i := range []int{0, 1, most - 2, most - 1} {
		if err := b.Twice(i); !isCode(err, api.ErrFull) {
			t.Errorf("P8.1: Twice(%d) of %d: %v", i, most, err)
		}
	}
	holds(t, b, want...)
	taken(t, b, 0, mark(0))
	if err := b.Twice(0); err != nil {
		t.Errorf("P8.1: Twice where one was taken: %v", err)
	}
	holds(t, b, append(want[1:], mark(1))...)
}

// P8.1: nothing there is told ahead of no room, and changes nothing.
func TestNone(t *testing.T) {
	for _, n := range []int{0, 1, 3, api.MaxLetters - 1, api.MaxLetters} {
		b := of(t, marks(0, n)...)
		for _, i := range []int{-1, -2, -n, -n - 1, n, n + 1, 2*n + 1, math.MinInt, math.MaxInt, 1 << 32, -1 << 32} {
			if i >= 0 && i < n {
				continue
			}
			if l, err := b.Take(i); !same(l, api.Letter{}) || !isCode(err, api.ErrNone) {
				t.Errorf("P8.1: Take(%d) of %d: %+v, %v", i, n, l, err)
			}
			if err := b.Lose(i); !isCode(err, api.ErrNone) {
				t.Errorf("P8.1: Lose(%d) of %d: %v", i, n, err)
			}
			if err := b.Twice(i); !isCode(err, api.ErrNone) {
				t.Errorf("P8.1: Twice(%d) of %d: %v", i, n, err)
			}
		}
		holds(t, b, marks(0, n)...)
	}
}

// spoil: whatever hangs on a letter, the spare room too.
func spoil(l api.Letter) {
	for i := range cap(l.Op.Writes) {
		l.Op.Writes[:cap(l.Op.Writes)][i] = api.Write{Key: "spoilt"}
	}
	for i := range cap(l.Answer.Rows) {
		l.Answer.Rows[:cap(l.Answer.Rows)][i] = api.Row{Key: "spoilt"}
	}
	for i := range cap(l.Seen) {
		l.Seen[:cap(l.Seen)][i] = api.Seen{Key: "spoilt", Version: -1}
	}
	for i := range cap(l.Events) {
		l.Events[:cap(l.Events)][i] = api.Event{Key: "spoilt", Version: -1}
	}
	for i := range cap(l.Places) {
		l.Places[:cap(l.Places)][i] = api.Place{ID: -1}
	}
}

// P8.1: what was put isn't kept, and no two letters that are told share memory, those that are there twice included.
func TestMemory(t *testing.T) {
	for _, fresh := range []func() api.Letter{full, answer} {
		put := fresh()
		b := of(t, put, mark(1))
		spoil(put)
		if err := b.Twice(0); err != nil {
			t.Fatalf("P8.1: Twice(0): %v", err)
		}
		one, two := b.All(), b.All()
		spoil(one[0])
		if !same(one[2], fresh()) || !same(two[0], fresh()) {
			t.Errorf("P8.1: spoilt: %+v, %+v", one[2], two[0])
		}
		for i := range one[:cap(one)] {
			one[:cap(one)][i] = mark(-1)
		}
		holds(t, b, fresh(), mark(1), fresh())
		first, err := b.Take(0)
		spoil(first)
		if !same(two[0], fresh()) || err != nil {
			t.Errorf("P8.1: spoilt: %+v, %v", two[0], err)
		}
		holds(t, b, mark(1), fresh())
		taken(t, b, 1, fresh())
	}
}

// P8.1: the room behind what is handed in stays as it was, too.
func TestHandedIn(t *testing.T) {
	for _, fresh := range []func() api.Letter{full, answer} {
		l, want := fresh(), fresh()
		for _, x := range []api.Letter{l, want} {
			spoil(api.Letter{Op: api.Op{Writes: x.Op.Writes[len(x.Op.Writes):]}, Answer: api.Answer{Rows: x.Answer.Rows[len(x.Answer.Rows):]}, Seen: x.Seen[len(x.Seen):], Events: x.Events[len(x.Events):], Places: x.Places[len(x.Places):]})
		}
		b := of(t, l)
		if err := b.Twice(0); err != nil {
			t.Errorf("P8.1: Twice(0): %v", err)
		}
		taken(t, b, 0, want)
		if !same(whole(l), whole(want)) {
			t.Errorf("P8.1: changed: %+v", whole(l))
		}
	}
}

// whole: the lists with the room behind them.
func whole(l api.Letter) api.Letter {
	l.Op.Writes, l.Answer.Rows = l.Op.Writes[:cap(l.Op.Writes)], l.Answer.Rows[:cap(l.Answer.Rows)]
	l.Seen, l.Events, l.Places = l.Seen[:cap(l.Seen)], l.Events[:cap(l.Events)], l.Places[:cap(l.Places)]
	return l
}

// P8.1: one bag has nothing to do with another one.
func TestApart(t *testing.T) {
	a, b := of(t, marks(0, 3)...), of(t, marks(0, 3)...)
	taken(t, a, 1, mark(1))
	if a.Put(mark(9)) != nil || b.Twice(0) != nil || b.Lose(2) != nil {
		t.Error("P8.1: an error")
	}
	holds(t, a, mark(0), mark(2), mark(9))
	holds(t, b, mark(0), mark(1), mark(0))
}

// step: one call, of a letter or an index.
type step struct {
	call string
	i    int
	l    api.Letter
}

// does: the document's words once more, on a list: what is there behind it, what is taken, which error.
func (s step) does(there []api.Letter) ([]api.Letter, api.Letter, api.Errno) {
	if s.call == "Put" {
		if s.l.Kind == 0 { // the only wrong one that steps have
			return there, api.Letter{}, api.ErrForm
		}
		there = append(slices.Clone(there), s.l)
		return there[max(len(there)-300, 0):], api.Letter{}, api.OK
	}
	if s.i < 0 || s.i > len(there)-1 {
		return there, api.Letter{}, api.ErrNone
	}
	it, left := there[s.i], slices.Concat(there[:s.i], there[s.i+1:])
	switch s.call {
	case "Take":
		return left, it, api.OK
	case "Lose":
		return left, api.Letter{}, api.OK
	}
	if len(there) == 300 {
		return there, api.Letter{}, api.ErrFull
	}
	return append(slices.Clone(there), it), api.Letter{}, api.OK
}

// on: the same of a bag.
func (s step) on(b *bag.Bag) (l api.Letter, err error) {
	switch s.call {
	case "Put":
		err = b.Put(s.l)
	case "Take":
		l, err = b.Take(s.i)
	case "Lose":
		err = b.Lose(s.i)
	default:
		err = b.Twice(s.i)
	}
	return l, err
}

// check: one step on a bag in which these are, and whether it tells what the words do; what is there behind it.
func check(t *testing.T, b *bag.Bag, there []api.Letter, s step) []api.Letter {
	t.Helper()
	left, want, code := s.does(there)
	if l, err := s.on(b); !same(l, want) || !isCode(err, code) || b.Len() != len(left) {
		t.Fatalf("P8.2: %s(%d) of %d: %+v, %v, %d are left; not %+v, %d, %d", s.call, s.i, len(there), l, err, b.Len(), want, code, len(left))
	}
	return left
}

// run: these steps, one behind the other, on a bag with these letters.
func run(t *testing.T, there []api.Letter, steps ...step) {
	t.Helper()
	b := of(t, there...)
	for _, s := range steps {
		there = check(t, b, there, s)
	}
	holds(t, b, there...)
}

// steps: all calls, with the indexes that tell where that many are there.
func steps(many int) []step {
	all := []step{{"Put", 0, mark(1001)}, {"Put", 0, full()}, {"Put", 0, api.Letter{}}}
	for _, i := range slices.Compact(slices.Sorted(slices.Values([]int{-1, 0, 1, many - 1, many}))) {
		all = append(all, step{"Take", i, api.Letter{}}, step{"Lose", i, api.Letter{}}, step{"Twice", i, api.Letter{}})
	}
	return all
}

// P8.2: all orders of a few steps, from bags with few letters and from such that are full, or nearly so.
func TestAllOrders(t *testing.T) {
	for _, many := range []int{0, 1, 2, 3} {
		for _, a := range steps(many) {
			for _, b := range steps(many) {
				for _, c := range steps(many) {
					run(t, marks(0, many), a, b, c)
				}
			}
		}
	}
	for _, many := range []int{api.MaxLetters - 1, api.MaxLetters} {
		for _, a := range steps(many) {
			for _, b := range steps(many) {
				run(t, marks(0, many), a, b)
			}
		}
	}
}

// P8.2: long runs of steps of all sorts, by a rule of numbers, so that each run of the tests has the same.
func TestLongRuns(t *testing.T) {
	calls := []string{"Put", "Twice", "Put", "Twice", "Take", "Lose"}
	for first := range 3 { // the fewer calls that add are among them, the fewer letters are there
		b, there, rule := bag.New(), []api.Letter(nil), uint32(first)
		next := func(below int) int {
			rule = rule*1664525 + 1013904223
			return int(rule>>8) % below
		}
		for n := range 5000 {
			s := step{calls[first+next(len(calls)-first)], next(len(there)+3) - 1, mark(n)}
			switch next(9) {
			case 0:
				s.l = kinds()[n%len(kinds())]
			case 1:
				s.l = api.Letter{}
			}
			there = check(t, b, there, s)
			if n%50 == 0 {
				holds(t, b, there...)
			}
		}
		holds(t, b, there...)
	}
}
