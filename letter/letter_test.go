package letter_test

import (
	"errors"
	"iter"
	"maps"
	"math"
	"reflect"
	"slices"
	"strings"
	"testing"

	"estuary/api"
	"estuary/fault"
	"estuary/frame"
	"estuary/letter"
	"estuary/op"
	"estuary/pack"
)

const bound = 1 << 48 // the first number that pack doesn't take

var (
	longest = strings.Repeat("k", api.MaxKey)
	tooLong = strings.Repeat("k", api.MaxKey+1)
	wide    = strings.Repeat("v", 40)
	tooWide = strings.Repeat("v", 41)
	data    = strings.Repeat("\xff", 255)
	tooMuch = strings.Repeat("d", 256)
)

func seen(k string, n int) api.Seen { return api.Seen{Key: k, Version: n} }

// seens: n of them, rising.
func seens(n int) []api.Seen {
	var l []api.Seen
	for i := range n {
		l = append(l, seen(string([]byte{'a' + byte(i/26), 'a' + byte(i%26)}), i))
	}
	return l
}

func event(k string, n int, v string) api.Event { return api.Event{Key: k, Version: n, Value: v} }

func gone(k string, n int) api.Event { return api.Event{Key: k, Version: n, Del: true} }

func events(n int) []api.Event {
	var l []api.Event
	for i := range n {
		l = append(l, event(strings.Repeat("e", i%api.MaxKey+1), i*i+1, strings.Repeat("\x00", i)), gone("e", i+1))
	}
	return l[:n]
}

func place(id, epoch, node int, from, to string) api.Place {
	return api.Place{ID: id, Epoch: epoch, Node: node, Span: api.Span{From: from, To: to}}
}

func places(n int) []api.Place {
	var l []api.Place
	for i := range n {
		l = append(l, place(i+1, i*64+1, i%api.MaxNodes, string([]byte{'a' + byte(i)}), string([]byte{'b' + byte(i)})))
	}
	return l
}

func rows(n int) []api.Row {
	var l []api.Row
	for i := range n {
		l = append(l, api.Row{Key: strings.Repeat("r", i), Value: strings.Repeat("\x80", 255-i), Version: i << 40})
	}
	return l
}

var (
	get    = api.Op{Kind: api.OGet, Key: "a"}
	batch  = api.Op{Kind: api.OBatch, Writes: []api.Write{{Key: "a", Value: wide}, {Key: "b", Del: true}, {Key: longest}}}
	found  = api.Answer{Value: "v", Version: 3}
	ranged = api.Answer{Rows: rows(api.MaxRows)}
)

// change: a part of a letter that is made another one.
type change struct {
	part string
	by   func(*api.Letter)
}

func numberChanges() []change {
	var all []change
	for _, a := range []int{0, 1, 2, 3, -1, 99, 100, 101, 199, 200, 201, 202, 203, math.MinInt, math.MaxInt, 256, 1 << 32} {
		all = append(all, change{"From", func(l *api.Letter) { l.From = a }}, change{"To", func(l *api.Letter) { l.To = a }})
	}
	for _, n := range [][5]int{{}, {1}, {0, 1}, {1, 2, 3, 4, 5}, {0, 0, 0, 0, api.MaxRev}, {api.MaxRev}, {64, 0, 4096}, {-1}, {0, 0, 0, 0, -1}, {api.MaxRev + 1}, {0, 0, api.MaxRev + 1}, {math.MaxInt}, {0, math.MinInt}} {
		all = append(all, change{"N", func(l *api.Letter) { l.N = n }})
	}
	return all
}

func bodyChanges() []change {
	var all []change
	five := make([]api.Write, 5)
	for _, o := range []api.Op{{}, get, batch, {Kind: api.OCas, Key: "a", Value: wide, Version: api.MaxRev}, {Kind: api.ORange, Key: "a", To: "b"}, {Writes: []api.Write{}}, {Kind: api.OGet}, {Key: "a"}, {Version: 1}, {Kind: api.OBatch, Writes: five}, {Kind: api.OPut, Key: "a", Value: tooWide}, {Writes: five[:1]}} {
		all = append(all, change{"Op", func(l *api.Letter) { l.Op = o }})
	}
	for _, a := range []api.Answer{{}, found, ranged, {Code: 17}, {Code: bound - 1, Value: data, Version: bound - 1}, {Rows: []api.Row{}}, {Rows: make([]api.Row, 1)}, {Code: -1}, {Version: bound}, {Value: tooMuch}, {Rows: rows(api.MaxRows + 1)}} {
		all = append(all, change{"Answer", func(l *api.Letter) { l.Answer = a }})
	}
	for _, s := range []api.Span{{}, {From: "a"}, {To: "\x00"}, {From: "a", To: "a\x00"}, {From: longest}, {To: longest}, {From: "b", To: "a"}, {From: "a", To: "a"}, {From: tooLong}, {To: tooLong}, {From: tooLong, To: "l"}} {
		all = append(all, change{"Span", func(l *api.Letter) { l.Span = s }})
	}
	for _, s := range []string{"", "d", "\x00\xff", data, tooMuch} {
		all = append(all, change{"Data", func(l *api.Letter) { l.Data = s }})
	}
	return all
}

func listChanges() []change {
	var all []change
	for _, s := range [][]api.Seen{nil, {}, {seen("a", 0)}, {seen(longest, api.MaxRev)}, {seen("a", 1), seen("a\x00", 0)}, seens(60), seens(61), seens(600), {seen("", 1)}, {seen(tooLong, 1)}, {seen("a", -1)}, {seen("a", api.MaxRev+1)}, {seen("a", 1), seen("a", 1)}, {seen("b", 1), seen("a", 1)}} {
		all = append(all, change{"Seen", func(l *api.Letter) { l.Seen = s }})
	}
	for _, s := range [][]api.Event{nil, {}, {event("a", 1, "")}, {event(longest, api.MaxRev, wide)}, {gone("b", 2), event("a", 1, "v"), gone("b", 2)}, events(8), events(9), {event("", 1, "v")}, {event(tooLong, 1, "v")}, {event("a", 0, "v")}, {event("a", -1, "v")}, {event("a", api.MaxRev+1, "v")}, {event("a", 1, tooWide)}, {{Key: "a", Version: 1, Value: "v", Del: true}}, {event("a", 1, "v"), {}}} {
		all = append(all, change{"Events", func(l *api.Letter) { l.Events = s }})
	}
	for _, s := range [][]api.Place{nil, {}, {place(1, 1, 0, "", "")}, {place(api.MaxRev, api.MaxEpoch, 2, "a", longest)}, {place(1, 1, 0, "", ""), place(1, 1, 0, "", "")}, places(8), places(9), {place(0, 1, 0, "", "")}, {place(-1, 1, 0, "", "")}, {place(api.MaxRev+1, 1, 0, "", "")}, {place(1, 0, 0, "", "")}, {place(1, -1, 0, "", "")}, {place(1, api.MaxEpoch+1, 0, "", "")}, {place(1, 1, -1, "", "")}, {place(1, 1, 3, "", "")}, {place(1, 1, api.Mover, "", "")}, {place(1, 1, api.Sessions, "", "")}, {place(1, 1, 0, "b", "a")}, {place(1, 1, 0, "a", "a")}, {place(1, 1, 0, tooLong, "")}, {place(1, 1, 0, "", tooLong)}, {place(1, 1, 0, "", ""), {}}} {
		all = append(all, change{"Places", func(l *api.Letter) { l.Places = s }})
	}
	return all
}

// plain: a letter of that Kind, with no more than it needs.
func plain(kind int) api.Letter {
	l := api.Letter{Kind: kind, From: api.Sessions, To: 1}
	if kind == api.LAsk {
		l.Op = get
	}
	return l
}

// letters: of all Kinds and wrong ones, with each part, and each two of them, of all sorts.
func letters() []api.Letter {
	changes := slices.Concat(numberChanges(), bodyChanges(), listChanges())
	all := []api.Letter{plain(math.MinInt), plain(math.MaxInt), plain(257)}
	for kind := -1; kind <= 23; kind++ {
		all = append(all, plain(kind))
		for i, one := range changes {
			l := plain(kind)
			one.by(&l)
			all = append(all, l)
			for _, other := range changes[i+1:] {
				if other.part != one.part && (kind <= 6 || kind >= 20) {
					two := l
					other.by(&two)
					all = append(all, two)
				}
			}
		}
	}
	return all
}

// someLetters: fewer of them, good ones and wrong ones, with much in them.
func someLetters() []api.Letter {
	feed := api.Letter{Kind: api.LFeed, From: 2, To: api.Sessions + 2, N: [5]int{1, 0, 7, 0, 1}, Span: api.Span{From: "a", To: "m"}, Events: events(8)}
	return []api.Letter{
		plain(api.LMap), plain(api.LAsk), {Kind: api.LMap, From: api.Sessions, To: api.Mover}, {Kind: api.LAsk, From: api.Sessions + 1, To: 2, N: [5]int{9}, Op: batch},
		{Kind: api.LAnswer, From: 2, To: api.Sessions, N: [5]int{9}, Answer: found}, {Kind: api.LAnswer, From: 0, To: api.Sessions, Answer: api.Answer{Rows: rows(1)[:1], Code: 17}},
		{Kind: api.LPoll, From: api.Sessions, To: 0, N: [5]int{0, 8, 70}, Span: api.Span{From: "a"}, Seen: seens(3)}, feed,
		{Kind: api.LPlan, From: api.Mover, To: api.Sessions, Places: places(3)}, {Kind: api.LPush, From: api.Mover, To: 1, N: [5]int{1, 2, 3}, Data: "piece\x00"},
		{Kind: api.LCut, From: 1, To: api.Mover, N: [5]int{1, 2, 0, 4}}, {Kind: api.LCut, From: 2, To: 2, Span: api.Span{To: "z"}, Seen: seens(1), Events: events(1), Places: places(1), Data: "d"},
	}
}

// isLetter: the document's words once more, in another way than the program's.
func isLetter(l api.Letter) bool {
	in := func(n, from, to int) bool { return !(n < from) && !(n > to) }
	isKey := func(k string) bool { return in(len(k), 1, 8) }
	isSpan := func(s api.Span) bool {
		return len(s.From) < 9 && len(s.To) < 9 && (len(s.To) == 0 || strings.Compare(s.From, s.To) < 0)
	}
	there := []int{0, 1, 2, 100, 200, 201, 202}
	wrong := 0
	for _, good := range []bool{
		in(l.Kind, 1, 21), slices.Contains(there, l.From), slices.Contains(there, l.To), slices.Min(l.N[:]) >= 0, slices.Max(l.N[:]) <= 1000000000000,
		l.Kind == 1 && op.Is(l.Op) || l.Kind != 1 && op.Same(l.Op, api.Op{}), l.Kind == 2 && op.AnswerBytes(l.Answer) != "" || l.Kind != 2 && op.SameAnswer(l.Answer, api.Answer{}),
		isSpan(l.Span), len(l.Seen) < 61, len(l.Events) < 9, len(l.Places) < 9, len(l.Data) < 256,
	} {
		if !good {
			wrong++
		}
	}
	keys := map[string]int{}
	for i, s := range l.Seen {
		keys[s.Key] = i
		if !isKey(s.Key) || !in(s.Version, 0, 1000000000000) {
			wrong++
		}
	}
	if sorted := slices.Sorted(maps.Keys(keys)); len(sorted) != len(l.Seen) || len(sorted) > 0 && !slices.EqualFunc(sorted, l.Seen, func(k string, s api.Seen) bool { return k == s.Key }) {
		wrong++
	}
	for _, e := range l.Events {
		if most := map[bool]int{false: 40, true: 0}[e.Del]; !isKey(e.Key) || !in(e.Version, 1, 1000000000000) || len(e.Value) > most {
			wrong++
		}
	}
	for _, p := range l.Places {
		if !in(p.ID, 1, 1000000000000) || !in(p.Epoch, 1, 1000000) || !in(p.Node, 0, 2) || !isSpan(p.Span) {
			wrong++
		}
	}
	return wrong == 0
}

// namesOf: likewise of Names.
func namesOf(l api.Letter) []int {
	var names []int
	for i, n := range l.N {
		if n != 0 {
			names = append(names, l.N[len(names):i+1]...)
		}
	}
	return names
}

// packed: what is within the frame, of a letter good or not, with these Names.
func packed(l api.Letter, names ...int) string {
	texts := []string{pack.Num(l.Kind), pack.Num(l.From), pack.Num(l.To), pack.Num(len(names))}
	for _, n := range names {
		texts = append(texts, pack.Num(n))
	}
	if l.Kind == 1 {
		texts = append(texts, op.Bytes(l.Op))
	}
	if l.Kind == 2 {
		texts = append(texts, op.AnswerBytes(l.Answer))
	}
	texts = append(texts, pack.Text(l.Span.From), pack.Text(l.Span.To), pack.Num(len(l.Seen)))
	for _, s := range l.Seen {
		texts = append(texts, pack.Text(s.Key), pack.Num(s.Version))
	}
	texts = append(texts, pack.Num(len(l.Events)))
	for _, e := range l.Events {
		texts = append(texts, pack.Text(e.Key), pack.Num(e.Version), pack.Text(e.Value), pack.Flag(e.Del))
	}
	texts = append(texts, pack.Num(len(l.Places)))
	for _, p := range l.Places {
		texts = append(texts, pack.Num(p.ID), pack.Num(p.Epoch), pack.Num(p.Node), pack.Text(p.Span.From), pack.Text(p.Span.To))
	}
	return strings.Join(append(texts, pack.Text(l.Data)), "")
}

// cursor: it stops at the first wrong byte by a panic of the Code.
type cursor struct{ left string }

func taken[T any](c *cursor, take func(string) (T, string, error)) T {
	v, rest, err := take(c.left)
	if err != nil {
		panic(api.ErrForm)
	}
	c.left = rest
	return v
}

func (c *cursor) num() int { return taken(c, pack.Take) }

func (c *cursor) text() string {
	return taken(c, func(s string) (string, string, error) { return pack.TakeText(s, api.MaxDisk) })
}

func (c *cursor) each(most int, one func(int)) {
	n := c.num()
	if n > most {
		panic(api.ErrForm)
	}
	for i := range n {
		one(i)
	}
}

// letterRead: the document's words of Read once more.
func letterRead(s string) (l api.Letter, code api.Errno) {
	text, rest, err := frame.Open(s)
	if err != nil {
		return api.Letter{}, fault.Code(err)
	}
	defer func() {
		if recover() != nil {
			l, code = api.Letter{}, api.ErrForm
		}
	}()
	c := cursor{text}
	l.Kind, l.From, l.To = c.num(), c.num(), c.num()
	last := 1
	c.each(5, func(i int) { l.N[i] = c.num(); last = l.N[i] })
	if l.Kind == 1 {
		l.Op = taken(&c, op.Read)
	}
	if l.Kind == 2 {
		l.Answer = taken(&c, op.ReadAnswer)
	}
	l.Span = api.Span{From: c.text(), To: c.text()}
	c.each(60, func(int) { l.Seen = append(l.Seen, seen(c.text(), c.num())) })
	c.each(8, func(int) {
		l.Events = append(l.Events, api.Event{Key: c.text(), Version: c.num(), Value: c.text(), Del: taken(&c, pack.TakeFlag)})
	})
	c.each(8, func(int) { l.Places = append(l.Places, place(c.num(), c.num(), c.num(), c.text(), c.text())) })
	l.Data = c.text()
	if c.left != "" || rest != "" || last == 0 || !isLetter(l) {
		panic(api.ErrForm)
	}
	return l, api.OK
}

// same: nil lists and empty ones are the same, all else is as it is.
func same(a, b api.Letter) bool {
	for _, l := range []*api.Letter{&a, &b} {
		l.Op.Writes = slices.Concat(l.Op.Writes)
		l.Answer.Rows = slices.Concat(l.Answer.Rows)
		l.Seen, l.Events, l.Places = slices.Concat(l.Seen), slices.Concat(l.Events), slices.Concat(l.Places)
	}
	return reflect.DeepEqual(a, b)
}

// isCode: whether err is what the document means by an error with this Code.
func isCode(err error, code api.Errno) bool {
	if code == api.OK {
		return err == nil
	}
	return err != nil && fault.Code(err) == code && errors.Is(err, code) && err.Error() != ""
}

// checkRead: whether Read tells just what the document's words tell of s.
func checkRead(t *testing.T, s string) {
	t.Helper()
	l, err := letter.Read(s)
	if want, code := letterRead(s); !same(l, want) || !isCode(err, code) {
		t.Fatalf("P7.2: Read(%.200q): %+v, %v; not %+v, %d", s, l, err, want, code)
	}
}

// texts: all of n of these bytes, each a number whose digits they are.
func texts(digits string, n int) iter.Seq[string] {
	return func(yield func(string) bool) {
		for i := range int(math.Pow(float64(len(digits)), float64(n))) {
			b := make([]byte, n)
			for at := range b {
				b[at] = digits[i%len(digits)]
				i /= len(digits)
			}
			if !yield(string(b)) {
				return
			}
		}
	}
}

// P7.1: each part that is changed makes it good, or not; all others are as they were.
func TestIs(t *testing.T) {
	good := map[string]int{}
	for _, c := range slices.Concat(numberChanges(), bodyChanges(), listChanges()) {
		good[c.part] += 0
		for kind := -1; kind <= 23; kind++ {
			l := plain(kind)
			c.by(&l)
			got := letter.Is(l)
			if got != isLetter(l) {
				t.Errorf("P7.1: Is(%+v): %v", l, got)
			}
			if got && kind == api.LFeed {
				good[c.part]++
			}
		}
	}
	want := map[string]int{"From": 7, "To": 7, "N": 7, "Op": 2, "Answer": 2, "Span": 6, "Data": 4, "Seen": 6, "Events": 6, "Places": 6}
	if !maps.Equal(good, want) {
		t.Errorf("P7.1: so many of an LFeed's changes are good: %v", good)
	}
}

// P7.1: Kinds, and what hangs on them.
func TestKinds(t *testing.T) {
	ask, answer, other := api.Letter{From: 0, To: 1, Op: get}, api.Letter{From: 0, To: 1, Answer: found}, api.Letter{From: 0, To: 1}
	both := api.Letter{From: 0, To: 1, Op: get, Answer: found}
	for kind := -30; kind <= 300; kind++ {
		ask.Kind, answer.Kind, other.Kind, both.Kind = kind, kind, kind, kind
		is := kind >= 1 && kind <= 21
		if letter.Is(ask) != (kind == 1) || letter.Is(answer) != (kind == 2) || letter.Is(other) != (is && kind != 1) || letter.Is(both) {
			t.Errorf("P7.1: Is of Kind %d: %v, %v, %v, %v", kind, letter.Is(ask), letter.Is(answer), letter.Is(other), letter.Is(both))
		}
	}
}

// P7.1: the edges that the document names.
func TestEdges(t *testing.T) {
	for i, c := range []struct {
		l    api.Letter
		want bool
	}{
		{api.Letter{}, false}, {api.Letter{Kind: api.LMap}, true}, {api.Letter{Kind: api.LMap, From: api.Sessions, To: api.Mover}, true}, {api.Letter{Kind: api.LMap, From: 2, To: 202}, true}, {api.Letter{Kind: api.LMap, From: 3}, false},
		{api.Letter{Kind: api.LMap, To: 3}, false}, {api.Letter{Kind: api.LMap, From: 203}, false}, {api.Letter{Kind: api.LMap, To: 203}, false}, {api.Letter{Kind: api.LMap, From: 99}, false}, {api.Letter{Kind: api.LMap, To: 101}, false}, {api.Letter{Kind: api.LMap, From: 199}, false}, {api.Letter{Kind: api.LMap, To: -1}, false},
		{api.Letter{Kind: api.LMap, N: [5]int{0, 0, 0, 0, 1000000000000}}, true}, {api.Letter{Kind: api.LMap, N: [5]int{0, 0, 0, 0, 1000000000001}}, false}, {api.Letter{Kind: api.LMap, N: [5]int{0, 0, 0, 0, -1}}, false},
		{api.Letter{Kind: api.LMap, Seen: seens(60)}, true}, {api.Letter{Kind: api.LMap, Seen: seens(61)}, false}, {api.Letter{Kind: api.LMap, Seen: slices.Repeat(seens(2), 2)}, false},
		{api.Letter{Kind: api.LMap, Events: events(8)}, true}, {api.Letter{Kind: api.LMap, Events: events(9)}, false}, {api.Letter{Kind: api.LMap, Events: []api.Event{event("a", 1, wide)}}, true}, {api.Letter{Kind: api.LMap, Events: []api.Event{event("a", 1, tooWide)}}, false}, {api.Letter{Kind: api.LMap, Events: []api.Event{event("a", 0, "")}}, false},
		{api.Letter{Kind: api.LMap, Events: []api.Event{gone("a", 1)}}, true}, {api.Letter{Kind: api.LMap, Events: []api.Event{{Key: "a", Version: 1, Value: "v", Del: true}}}, false},
		{api.Letter{Kind: api.LMap, Places: places(8)}, true}, {api.Letter{Kind: api.LMap, Places: places(9)}, false}, {api.Letter{Kind: api.LMap, Places: []api.Place{place(1, 1000000, 2, "", "")}}, true}, {api.Letter{Kind: api.LMap, Places: []api.Place{place(1, 1000001, 2, "", "")}}, false}, {api.Letter{Kind: api.LMap, Places: []api.Place{place(1, 1, 3, "", "")}}, false},
		{api.Letter{Kind: api.LMap, Data: data}, true}, {api.Letter{Kind: api.LMap, Data: tooMuch}, false}, {api.Letter{Kind: api.LMap, Span: api.Span{From: "a", To: "a"}}, false}, {api.Letter{Kind: api.LMap, Span: api.Span{From: longest}}, true}, {api.Letter{Kind: api.LMap, Span: api.Span{From: tooLong}}, false},
		{api.Letter{Kind: api.LAsk, Op: batch}, true}, {api.Letter{Kind: api.LAsk}, false}, {api.Letter{Kind: api.LAsk, Op: api.Op{Kind: api.OGet}}, false}, {api.Letter{Kind: api.LAnswer}, true}, {api.Letter{Kind: api.LAnswer, Answer: ranged}, true}, {api.Letter{Kind: api.LAnswer, Answer: api.Answer{Code: -1}}, false},
		{api.Letter{Kind: api.LMap, Op: api.Op{Writes: []api.Write{}}, Answer: api.Answer{Rows: []api.Row{}}, Seen: []api.Seen{}, Events: []api.Event{}, Places: []api.Place{}}, true},
	} {
		if got := letter.Is(c.l); got != c.want || isLetter(c.l) != c.want {
			t.Errorf("P7.1: row %d: Is(%+v): %v", i, c.l, got)
		}
	}
}

// P7.1: all noughts behind the last number go, none ahead of it; of what isn't Is, too.
func TestNames(t *testing.T) {
	for _, c := range []struct {
		n    [5]int
		want []int
	}{
		{[5]int{}, nil}, {[5]int{1}, []int{1}}, {[5]int{0, 1}, []int{0, 1}}, {[5]int{3, 0, 0, 2, 0}, []int{3, 0, 0, 2}}, {[5]int{1, 2, 3, 4, 5}, []int{1, 2, 3, 4, 5}}, {[5]int{4: 9}, []int{0, 0, 0, 0, 9}},
		{[5]int{-1}, []int{-1}}, {[5]int{0, 0, math.MinInt}, []int{0, 0, math.MinInt}}, {[5]int{math.MaxInt, 0, -1, 0, 0}, []int{math.MaxInt, 0, -1}},
	} {
		for _, l := range []api.Letter{{N: c.n}, {Kind: api.LAsk, From: -1, N: c.n}, {Kind: api.LMap, N: c.n, Data: "d"}} {
			if got := letter.Names(l); !slices.Equal(got, c.want) || !slices.Equal(namesOf(l), c.want) {
				t.Errorf("P7.1: Names of %v: %v", c.n, got)
			}
		}
	}
	for i := range 3 * 3 * 3 * 3 * 3 {
		l := api.Letter{N: [5]int{i % 3, i / 3 % 3, i / 9 % 3, i / 27 % 3, i / 81}}
		if got := letter.Names(l); !slices.Equal(got, namesOf(l)) {
			t.Errorf("P7.1: Names of %v: %v", l.N, got)
		}
	}
}

// P7.1: one part that is another makes another letter, whether these are Is or not.
func TestSame(t *testing.T) {
	full := api.Letter{Kind: 1, From: 2, To: 3, N: [5]int{1, 2, 3, 4, 5}, Op: batch, Answer: api.Answer{Code: 1, Rows: rows(2)}, Span: api.Span{From: "a", To: "b"}, Seen: seens(2), Events: events(2), Places: places(2), Data: "d"}
	unlike := []api.Letter{full, {}, plain(1), plain(2), {N: [5]int{1}}, {N: [5]int{0, 1}}, {From: 1}, {To: 1}, {Data: "1"}, {Span: api.Span{From: "1"}}, {Span: api.Span{To: "1"}}}
	for _, by := range []func(*api.Letter){
		func(l *api.Letter) { l.Kind = 2 }, func(l *api.Letter) { l.From = 3 }, func(l *api.Letter) { l.To = -1 }, func(l *api.Letter) { l.N[0] = 0 }, func(l *api.Letter) { l.N[4] = 0 }, func(l *api.Letter) { l.N[1], l.N[2] = 3, 2 },
		func(l *api.Letter) { l.Op = get }, func(l *api.Letter) { l.Op.Writes = l.Op.Writes[:2] }, func(l *api.Letter) { l.Op.Version = 1 }, func(l *api.Letter) { l.Answer = found }, func(l *api.Letter) { l.Answer.Code = 2 }, func(l *api.Letter) { l.Answer.Rows = rows(1) },
		func(l *api.Letter) { l.Span.From = "" }, func(l *api.Letter) { l.Span.To = "" }, func(l *api.Letter) { l.Data = "d\x00" }, func(l *api.Letter) { l.Seen = nil }, func(l *api.Letter) { l.Seen = seens(1) }, func(l *api.Letter) { l.Seen = []api.Seen{seens(2)[1], seens(2)[0]} },
		func(l *api.Letter) { l.Seen = []api.Seen{seens(2)[0], seen(seens(2)[1].Key, 7)} }, func(l *api.Letter) { l.Seen = []api.Seen{seens(2)[0], seen("k", seens(2)[1].Version)} }, func(l *api.Letter) { l.Events = nil }, func(l *api.Letter) { l.Events = events(1) }, func(l *api.Letter) { l.Events = events(3) },
		func(l *api.Letter) { l.Events = []api.Event{events(2)[0], events(2)[0]} }, func(l *api.Letter) { l.Events = []api.Event{events(2)[0], event("e", 1, "x")} }, func(l *api.Letter) { l.Events = []api.Event{events(2)[0], gone("e", 9)} },
		func(l *api.Letter) { l.Places = nil }, func(l *api.Letter) { l.Places = places(1) }, func(l *api.Letter) { l.Places = places(3) }, func(l *api.Letter) { l.Places = []api.Place{places(2)[1], places(2)[0]} }, func(l *api.Letter) { l.Places = []api.Place{places(2)[0], place(2, 65, 2, "b", "c")} },
		func(l *api.Letter) { l.Places = []api.Place{places(2)[0], place(2, 64, 1, "b", "c")} }, func(l *api.Letter) { l.Places = []api.Place{places(2)[0], place(2, 65, 1, "b", "d")} }, func(l *api.Letter) { l.Places = []api.Place{places(2)[0], place(3, 65, 1, "b", "c")} },
	} {
		l := full
		by(&l)
		unlike = append(unlike, l)
	}
	for i, a := range unlike {
		for j, b := range unlike {
			b.Seen, b.Events, b.Places = slices.Clone(b.Seen), slices.Clone(b.Events), slices.Clone(b.Places)
			b.Op.Writes, b.Answer.Rows = slices.Clone(b.Op.Writes), slices.Clone(b.Answer.Rows)
			if got := letter.Same(a, b); got != (i == j) {
				t.Errorf("P7.1: Same(%+v, %+v): %v", a, b, got)
			}
		}
	}
	empty := api.Letter{Op: api.Op{Writes: []api.Write{}}, Answer: api.Answer{Rows: []api.Row{}}, Seen: []api.Seen{}, Events: []api.Event{}, Places: []api.Place{}}
	if !letter.Same(api.Letter{}, empty) || !letter.Same(empty, api.Letter{}) {
		t.Error("P7.1: Same: a nil list isn't an empty one")
	}
}

// P7.2: byte by byte.
func TestBytes(t *testing.T) {
	for i, c := range []struct {
		l    api.Letter
		want string
	}{
		{api.Letter{Kind: api.LMap, From: api.Sessions, To: api.Mover}, "\x05\x48\x03\x64\x01\x00" + "\x00\x00" + "\x00\x00\x00\x00"},
		{api.Letter{Kind: api.LAsk, From: 201, To: 2, N: [5]int{64}, Op: api.Op{Kind: api.OCas, Key: "reed", Value: "v", Version: 3}}, "\x01\x49\x03\x02\x01\x40\x01" + "\x04\x04reed\x00\x01v\x03\x00" + "\x00\x00\x00\x00\x00\x00"},
		{api.Letter{Kind: api.LAnswer, From: 2, To: 201, N: [5]int{64}, Answer: api.Answer{Code: 17}}, "\x02\x02\x49\x03\x01\x40\x01" + "\x11\x00\x00\x00" + "\x00\x00\x00\x00\x00\x00"},
		{api.Letter{Kind: api.LPoll, From: 200, To: 0, N: [5]int{0, 8}, Span: api.Span{From: "a", To: "mm"}, Seen: []api.Seen{seen("a", 0), seen("b", 65)}}, "\x03\x48\x03\x00\x02\x00\x08" + "\x01a\x02mm" + "\x02\x01a\x00\x01b\x41\x01" + "\x00\x00\x00"},
		{api.Letter{Kind: api.LFeed, From: 0, To: 200, N: [5]int{0, 0, 0, 0, 1}, Events: []api.Event{event("b", 2, "x"), gone("a", 1)}}, "\x04\x00\x48\x03\x05\x00\x00\x00\x00\x01" + "\x00\x00\x00" + "\x02\x01b\x02\x01x\x00\x01a\x01\x00\x01" + "\x00\x00"},
		{api.Letter{Kind: api.LPlan, From: 100, To: 202, Places: []api.Place{place(1, 2, 0, "", "m"), place(66, 1, 2, "m", "")}}, "\x06\x64\x01\x4a\x03\x00" + "\x00\x00\x00\x00" + "\x02\x01\x02\x00\x00\x01m\x42\x01\x01\x02\x01m\x00" + "\x00"},
		{api.Letter{Kind: api.LPush, From: 100, To: 1, N: [5]int{1, 2, 0, 0, 0}, Data: "\x00d"}, "\x0b\x64\x01\x01\x02\x01\x02" + "\x00\x00\x00\x00\x00\x02\x00d"},
		{api.Letter{Kind: api.LCut, From: 1, To: 100, N: [5]int{4, 3, 2, 1, 5}}, "\x15\x01\x64\x01\x05\x04\x03\x02\x01\x05" + "\x00\x00\x00\x00\x00\x00"},
	} {
		if got := letter.Bytes(c.l); got != frame.Wrap(c.want) {
			t.Errorf("P7.2: row %d: Bytes(%+v): %q", i, c.l, got)
		}
	}
	for _, l := range letters() {
		want := ""
		if isLetter(l) {
			want = frame.Wrap(packed(l, namesOf(l)...))
		}
		if letter.Is(l) != (want != "") {
			t.Fatalf("P7.1: Is(%+v): %v", l, want == "")
		}
		if got := letter.Bytes(l); got != want {
			t.Fatalf("P7.2: Bytes(%+v): %q", l, got)
		}
	}
}

// P7.2: a row an error, and those where several apply: the frame's come first, all else is ill-formed.
func TestReadErrors(t *testing.T) {
	fits := letter.Bytes(api.Letter{Kind: api.LMap, From: api.Sessions, To: api.Mover})
	more := "sum," + pack.Num(api.MaxDisk+1)
	for i, c := range []struct {
		s    string
		code api.Errno
	}{
		{"", api.ErrShort}, {"\x80\x80\x80", api.ErrShort}, {"sum,", api.ErrShort}, {fits[:len(fits)-1], api.ErrShort}, {"sum,\x02t", api.ErrShort}, {"sum,\x40", api.ErrShort},
		{"sum,\x80", api.ErrForm}, {"sum,\x40\x00", api.ErrForm}, {more, api.ErrLarge}, {more + fits, api.ErrLarge}, {"sum,\x00", api.ErrSpoilt}, {"sum," + fits[4:], api.ErrSpoilt}, {"sum," + fits[4:] + "behind", api.ErrSpoilt},
		{fits + "\x00", api.ErrForm}, {fits + fits, api.ErrForm}, {fits + fits[:3], api.ErrForm}, {frame.Wrap(fits), api.ErrForm},
	} {
		if l, err := letter.Read(c.s); !same(l, api.Letter{}) || !isCode(err, c.code) {
			t.Errorf("P7.2: row %d: Read(%.50q): %+v, %v; not %d", i, c.s, l, err, c.code)
		}
		checkRead(t, c.s)
	}
}

// P7.2: within a whole frame nothing is short, and nothing too large.
func TestReadIllFormed(t *testing.T) {
	l := api.Letter{Kind: api.LMap, From: api.Sessions, To: api.Mover}
	five := "\x06\x00\x00\x00\x00\x05" + strings.Repeat("\x01a\x00\x00", 5)
	for i, text := range []string{
		"", "\x05", "\x80", "\x05\x48\x03", "\x05\x48\x03\x64\x01", packed(l)[:len(packed(l))-1], packed(l) + "\x00", packed(l) + "tail", packed(l) + packed(l), "\x00" + packed(l),
		packed(l, 0), packed(l, 1, 0), packed(l, 0, 0, 0, 0, 0), packed(l, 1, 2, 3, 4, 5, 6), packed(l, 1, 2, 3, 4, 5, 0), packed(l, api.MaxRev+1), packed(l, bound), "\x05\x48\x03\x64\x01" + pack.Num(bound-1) + "\x01",
		packed(api.Letter{Kind: 0}), packed(api.Letter{Kind: 22}), packed(api.Letter{Kind: bound - 1}), packed(api.Letter{Kind: 5, From: 3}), packed(api.Letter{Kind: 5, To: 203}), packed(api.Letter{Kind: 5, From: 101}),
		packed(api.Letter{Kind: 1}), packed(api.Letter{Kind: 1, Op: api.Op{Kind: 1}}), "\x01\x48\x03\x00\x00" + five + "\x00\x00\x00\x00\x00\x00", "\x01\x48\x03\x00\x00\x01" + pack.Num(256), "\x05\x48\x03\x64\x01\x00" + op.Bytes(get) + "\x00\x00\x00\x00\x00\x00",
		"\x02\x00\x48\x03\x00\x00\x00\x00\x11" + strings.Repeat("\x00", 51) + "\x00\x00\x00\x00\x00\x00", "\x02\x00\x48\x03\x00\x00\x00\x00\x11", "\x02\x00\x48\x03\x00\x00\x00\x00", packed(api.Letter{Kind: 2, Answer: api.Answer{Code: -1}}),
		packed(api.Letter{Kind: 5, Span: api.Span{From: "b", To: "a"}}), packed(api.Letter{Kind: 5, Span: api.Span{From: tooLong}}), packed(api.Letter{Kind: 5, Span: api.Span{To: tooMuch}}), packed(api.Letter{Kind: 5, Seen: seens(61)}), packed(api.Letter{Kind: 5, Seen: []api.Seen{seen("b", 1), seen("a", 1)}}),
		packed(api.Letter{Kind: 5, Events: events(9)}), packed(api.Letter{Kind: 5, Events: []api.Event{event("a", 0, "")}}), packed(api.Letter{Kind: 5, Events: []api.Event{event("a", 1, tooWide)}}), packed(api.Letter{Kind: 5, Events: []api.Event{{Key: "a", Version: 1, Value: "v", Del: true}}}), strings.Replace(packed(api.Letter{Kind: 5, Events: []api.Event{event("a", 1, "v")}}), "v\x00", "v\x02", 1),
		packed(api.Letter{Kind: 5, Places: places(9)}), packed(api.Letter{Kind: 5, Places: []api.Place{place(1, 1, 3, "", "")}}), packed(api.Letter{Kind: 5, Places: []api.Place{place(0, 1, 1, "", "")}}), packed(api.Letter{Kind: 5, Places: []api.Place{place(1, 0, 1, "", "")}}), packed(api.Letter{Kind: 5, Data: tooMuch}), packed(l)[:len(packed(l))-1] + pack.Num(255),
	} {
		if l, err := letter.Read(frame.Wrap(text)); !same(l, api.Letter{}) || !isCode(err, api.ErrForm) {
			t.Errorf("P7.2: row %d: Read of Wrap(%.50q): %+v, %v; not %d", i, text, l, err, api.ErrForm)
		}
		checkRead(t, frame.Wrap(text))
	}
}

// P7.2: all texts of so many bytes behind these fronts.
func TestRead(t *testing.T) {
	read := 0
	for _, front := range []string{"\x05\x48\x03\x64\x01", "\x05\x48\x03\x64\x01\x01\x01", "\x02\x00\x48\x03\x00\x00\x00\x00", "\x01\x48\x03\x00\x00\x01\x01a\x00\x00\x00"} {
		for s := range texts("\x00\x01\x02a\x80", 7) {
			whole := frame.Wrap(front + s)
			checkRead(t, whole)
			if l, err := letter.Read(whole); err == nil {
				read++
				if letter.Bytes(l) != whole {
					t.Fatalf("P7.3: Bytes of what Read(%q) told: %q", whole, letter.Bytes(l))
				}
			}
		}
	}
	if read < 10 {
		t.Errorf("P7.3: so few were read: %d", read)
	}
}

// P7.2: what is packed of any letter, good or not, is read only if it is good.
func TestReadAny(t *testing.T) {
	for i, l := range letters() {
		if i%5 == 0 {
			checkRead(t, frame.Wrap(packed(l, namesOf(l)...)))
		}
	}
}

// P7.2: each byte changed to each other one: within the frame, and of the frame.
func TestChanged(t *testing.T) {
	for _, l := range someLetters() {
		text := packed(l, namesOf(l)...)
		whole := frame.Wrap(text)
		for b := range 256 {
			changed := string([]byte{byte(b)})
			for i := range len(text) {
				checkRead(t, frame.Wrap(text[:i]+changed+text[i+1:]))
			}
			for i := range len(whole) {
				s := whole[:i] + changed + whole[i+1:]
				checkRead(t, s)
				if got, err := letter.Read(s); s != whole && (err == nil || !same(got, api.Letter{})) {
					t.Fatalf("P7.2: Read of %q, byte %d made %d: %+v", whole, i, b, got)
				}
			}
		}
	}
}

// P7.3: as it was sent, and of unlike ones unlike bytes.
func TestSentIsRead(t *testing.T) {
	sent := map[string]api.Letter{}
	for _, l := range append(letters(), someLetters()...) {
		if !isLetter(l) {
			continue
		}
		s := letter.Bytes(l)
		got, err := letter.Read(s)
		if !letter.Same(got, l) || !same(got, l) || err != nil {
			t.Fatalf("P7.3: Read of Bytes(%+v): %+v, %v", l, got, err)
		}
		if other, ok := sent[s]; ok && !same(other, l) {
			t.Fatalf("P7.3: one text of two: %+v, %+v", other, l)
		}
		sent[s] = l
	}
	if len(sent) < 1000 {
		t.Errorf("P7.3: %d letters are few", len(sent))
	}
}

// P7.3: what was cut off is none, nor is what has more behind it.
func TestCutOff(t *testing.T) {
	for _, l := range someLetters() {
		text := packed(l, namesOf(l)...)
		whole := frame.Wrap(text)
		for cut := range len(whole) {
			if got, err := letter.Read(whole[:cut]); !same(got, api.Letter{}) || !isCode(err, api.ErrShort) {
				t.Errorf("P7.3: Read of %d bytes of %q: %+v, %v", cut, whole, got, err)
			}
		}
		for cut := range len(text) {
			if got, err := letter.Read(frame.Wrap(text[:cut])); !same(got, api.Letter{}) || !isCode(err, api.ErrForm) {
				t.Errorf("P7.3: Read of Wrap of %d bytes of %q: %+v, %v", cut, text, got, err)
			}
		}
		for _, tail := range []string{"\x00", "\x80", "tail", whole} {
			for _, s := range []string{whole + tail, frame.Wrap(text + tail)} {
				if got, err := letter.Read(s); !same(got, api.Letter{}) || !isCode(err, api.ErrForm) {
					t.Errorf("P7.3: Read of %q: %+v, %v", s, got, err)
				}
			}
		}
	}
}

// full: a letter with all lists, and room behind each.
func full() api.Letter {
	return api.Letter{Kind: api.LAsk, From: 200, N: [5]int{1, 0, 2}, Op: api.Op{Kind: api.OBatch, Writes: slices.Grow(batch.Writes[:2:2], 4)}, Seen: slices.Grow(seens(5), 4), Events: slices.Grow(events(5), 4), Places: slices.Grow(places(5), 4)}
}

// spoil: whatever hangs on a letter, the spare room too.
func spoil(l api.Letter) {
	for i := range l.Op.Writes[:cap(l.Op.Writes)] {
		l.Op.Writes[:cap(l.Op.Writes)][i] = api.Write{Key: "spoilt"}
	}
	for i := range l.Seen[:cap(l.Seen)] {
		l.Seen[:cap(l.Seen)][i] = seen("spoilt", -1)
	}
	for i := range l.Events[:cap(l.Events)] {
		l.Events[:cap(l.Events)][i] = event("spoilt", -1, "spoilt")
	}
	for i := range l.Places[:cap(l.Places)] {
		l.Places[:cap(l.Places)][i] = place(-1, -1, -1, "spoilt", "spoilt")
	}
}

// P7.1, P7.2: no two answers share memory, their spare room included.
func TestMemory(t *testing.T) {
	want := full()
	s := letter.Bytes(want)
	first, _ := letter.Read(s)
	second, _ := letter.Read(s)
	spoil(first)
	if !same(second, want) {
		t.Errorf("P7.2: spoilt: %+v", second)
	}
	if third, err := letter.Read(s); !same(third, want) || err != nil {
		t.Errorf("P7.2: spoilt: %+v, %v", third, err)
	}
	one, two := letter.Names(want), letter.Names(want)
	for i := range one[:cap(one)] {
		one[:cap(one)][i] = -1
	}
	if !slices.Equal(two, []int{1, 0, 2}) || want.N != [5]int{1, 0, 2} {
		t.Errorf("P7.1: spoilt: %v, %v", two, want.N)
	}
	if three := letter.Names(want); !slices.Equal(three, []int{1, 0, 2}) {
		t.Errorf("P7.1: spoilt: %v", three)
	}
}

// P7.1, P7.2: what is handed in stays as it was, the room behind it, too.
func TestHandedIn(t *testing.T) {
	l, want := full(), full()
	for _, x := range []api.Letter{l, want} {
		spoil(api.Letter{Op: api.Op{Writes: x.Op.Writes[2:4]}, Seen: x.Seen[5:9], Events: x.Events[5:9], Places: x.Places[5:9]})
	}
	for kind := range 23 {
		l.Kind = kind
		letter.Is(l)
		letter.Same(l, l)
		letter.Names(l)
		letter.Bytes(l)
	}
	all := func(l api.Letter) api.Letter {
		return api.Letter{Op: api.Op{Writes: l.Op.Writes[:4]}, Seen: l.Seen[:9], Events: l.Events[:9], Places: l.Places[:9]}
	}
	if !same(all(l), all(want)) {
		t.Errorf("P7.1: changed: %+v", all(l))
	}
}

// P7.1, P7.2: lists and texts that are much too long.
func TestHuge(t *testing.T) {
	n := 1 << 20
	for _, l := range []api.Letter{
		{Kind: api.LMap, Seen: make([]api.Seen, n)}, {Kind: api.LMap, Events: make([]api.Event, n)}, {Kind: api.LMap, Places: make([]api.Place, n)}, {Kind: api.LMap, Data: strings.Repeat("d", n)},
		{Kind: api.LAsk, Op: api.Op{Kind: api.OBatch, Writes: make([]api.Write, n)}}, {Kind: api.LAnswer, Answer: api.Answer{Rows: make([]api.Row, n)}}, {Kind: api.LMap, Span: api.Span{From: strings.Repeat("f", n)}},
	} {
		if letter.Is(l) || letter.Bytes(l) != "" || !letter.Same(l, l) || len(letter.Names(l)) != 0 {
			t.Errorf("P7.1: of Kind %d", l.Kind)
		}
	}
	if l, err := letter.Read(strings.Repeat("\x00", n)); !same(l, api.Letter{}) || !isCode(err, api.ErrSpoilt) {
		t.Errorf("P7.2: %+v, %v", l, err)
	}
}
