package image_test

import (
	"errors"
	"math"
	"slices"
	"strings"
	"testing"

	"estuary/api"
	"estuary/fault"
	"estuary/frame"
	"estuary/image"
	"estuary/letter"
	"estuary/op"
	"estuary/pack"
	"estuary/shard"
)

const bound = 1 << 48 // the first number that pack doesn't take

var (
	longest = strings.Repeat("k", api.MaxKey)
	tooLong = strings.Repeat("k", api.MaxKey+1)
	fullest = strings.Repeat("v", api.MaxValue)
	tooMuch = strings.Repeat("v", api.MaxValue+1)
	widest  = strings.Repeat("\xff", 255) // a text of an answer
	tooWide = strings.Repeat("w", 256)
	all     = api.Span{}
	spoilt  = api.Row{Key: "spoilt", Version: -9}
)

func sp(from, to string) api.Span { return api.Span{From: from, To: to} }

// is, gone: cells that were put, deleted.
func is(key, value string, version, floor int) api.Cell {
	return api.Cell{Key: key, Value: value, Version: version, Floor: floor}
}

func gone(key string, version, floor int) api.Cell {
	return api.Cell{Key: key, Version: version, Del: true, Floor: floor}
}

// was, wasDel: events.
func was(key string, version int, value string) api.Event {
	return api.Event{Key: key, Version: version, Value: value}
}

func wasDel(key string, version int) api.Event {
	return api.Event{Key: key, Version: version, Del: true}
}

func did(session, id int, a api.Answer) api.Done {
	return api.Done{Session: session, ID: id, Answer: a}
}

// rows: n of them; an answer may have any.
func rows(n int) []api.Row {
	var l []api.Row
	for i := range n {
		l = append(l, api.Row{Key: widest[i:], Value: strings.Repeat("\x00", i), Version: i << 40})
	}
	return l
}

// harbour: a shard with some of all that one may have.
func harbour() api.Shard {
	return api.Shard{ID: 66, Epoch: 3, Span: sp("b", "p"),
		Cells:  []api.Cell{is("b", "x", 2, 0), gone("d", 4, 2), is("g", "", 65, 65), gone("o", 1, 1)},
		Events: []api.Event{was("d", 3, "v"), was("b", 1, ""), wasDel("d", 4), was("b", 2, "x")},
		Done:   []api.Done{did(0, 3, api.Answer{Value: "v", Version: 2}), did(2, 70, api.Answer{Code: 14, Rows: rows(2)})}}
}

// spent: all as great as may be, with keys of any bytes.
func spent() api.Shard {
	return api.Shard{ID: api.MaxRev, Epoch: api.MaxEpoch, Span: sp("\x00", strings.Repeat("\xff", api.MaxKey)), Frozen: true,
		Cells:  []api.Cell{is("\x00", fullest, api.MaxRev, api.MaxRev), is(longest, fullest, api.MaxRev, api.MaxRev-1), gone("\xff\xfe", api.MaxRev, api.MaxRev)},
		Events: []api.Event{was(longest, api.MaxRev, fullest)},
		Done:   []api.Done{did(0, api.MaxRev, api.Answer{Code: bound - 1, Value: widest, Version: bound - 1, Rows: rows(api.MaxRows)}), did(1, 1, api.Answer{}), did(2, api.MaxRev, api.Answer{Rows: rows(1)})}}
}

// many: so many cells without events.
func many(n int) api.Shard {
	s := shard.New(2, 1, all)
	for i := range n {
		s.Cells = append(s.Cells, is(string([]byte{byte(i >> 16), byte(i >> 8), byte(i)}), fullest, 1, 1))
	}
	return s
}

// long: a key with so many events, all there are.
func long(n int) api.Shard {
	s := shard.New(1, 1, sp("r", "s"))
	s.Cells = []api.Cell{is("reed", "v", n, 0)}
	for i := range n {
		s.Events = append(s.Events, was("reed", i+1, "v"))
	}
	return s
}

func frozen(s api.Shard) api.Shard {
	s.Frozen = true
	return s
}

// shards: all Is.
func shards() []api.Shard {
	return []api.Shard{shard.New(1, 1, all), frozen(shard.New(64, 65, sp("b", "b\x00"))), harbour(), frozen(harbour()), spent(), many(63), many(64), many(100), long(api.MaxHistory), frozen(long(1))}
}

// change: a part of harbour that is made another one; whether it is Is then.
type change struct {
	name string
	by   func(s *api.Shard)
	good bool
}

func headChanges() []change {
	return []change{
		{"nothing", func(s *api.Shard) {}, true}, {"frozen", func(s *api.Shard) { s.Frozen = true }, true}, {"no Done", func(s *api.Shard) { s.Done = nil }, true}, {"empty", func(s *api.Shard) { s.Cells, s.Events, s.Done = []api.Cell{}, []api.Event{}, []api.Done{} }, true},
		{"ID first", func(s *api.Shard) { s.ID = 1 }, true}, {"ID last", func(s *api.Shard) { s.ID = api.MaxRev }, true}, {"ID 0", func(s *api.Shard) { s.ID = 0 }, false}, {"ID below", func(s *api.Shard) { s.ID = -1 }, false}, {"ID above", func(s *api.Shard) { s.ID = api.MaxRev + 1 }, false}, {"ID bound", func(s *api.Shard) { s.ID = bound }, false}, {"ID most", func(s *api.Shard) { s.ID = math.MaxInt }, false},
		{"Epoch last", func(s *api.Shard) { s.Epoch = api.MaxEpoch }, true}, {"Epoch 0", func(s *api.Shard) { s.Epoch = 0 }, false}, {"Epoch below", func(s *api.Shard) { s.Epoch = math.MinInt }, false}, {"Epoch above", func(s *api.Shard) { s.Epoch = api.MaxEpoch + 1 }, false},
		{"all", func(s *api.Shard) { s.Span = all }, true}, {"tight", func(s *api.Shard) { s.Span = sp("b", "o\x00") }, true}, {"wide", func(s *api.Shard) { s.Span = sp("", longest) }, false}, {"low", func(s *api.Shard) { s.Span.From = "c" }, false}, {"high", func(s *api.Shard) { s.Span.To = "o" }, false}, {"no Span", func(s *api.Shard) { s.Span = sp("p", "b") }, false}, {"From long", func(s *api.Shard) { s.Span.From = "a" + tooLong }, false}, {"To long", func(s *api.Shard) { s.Span.To = "p" + longest }, false}, {"To longest", func(s *api.Shard) { s.Span.To = "p" + longest[1:] }, true},
	}
}

func listChanges() []change {
	return []change{
		{"order", func(s *api.Shard) { s.Cells[2], s.Cells[3] = s.Cells[3], s.Cells[2] }, false}, {"twice", func(s *api.Shard) { s.Cells[3] = s.Cells[2] }, false}, {"no cells", func(s *api.Shard) { s.Cells = nil }, false}, {"one less", func(s *api.Shard) { s.Cells = s.Cells[:3] }, true}, {"no key", func(s *api.Shard) { s.Span, s.Cells[0].Key = all, "" }, false}, {"key long", func(s *api.Shard) { s.Cells[3].Key = "o" + longest }, false}, {"key longest", func(s *api.Shard) { s.Cells[3].Key = "o" + longest[1:] }, true},
		{"value", func(s *api.Shard) { s.Cells[2].Value = fullest }, true}, {"value large", func(s *api.Shard) { s.Cells[2].Value = tooMuch }, false}, {"value deleted", func(s *api.Shard) { s.Cells[3].Value = "v" }, false}, {"version 0", func(s *api.Shard) { s.Cells[2].Version, s.Cells[2].Floor = 0, 0 }, false}, {"version last", func(s *api.Shard) { s.Cells[2].Version, s.Cells[2].Floor = api.MaxRev, api.MaxRev }, true}, {"version above", func(s *api.Shard) { s.Cells[2].Version, s.Cells[2].Floor = api.MaxRev+1, api.MaxRev+1 }, false},
		{"floor less", func(s *api.Shard) { s.Cells[2].Floor-- }, false}, {"floor above", func(s *api.Shard) { s.Cells[2].Floor++ }, false}, {"floor below", func(s *api.Shard) { s.Cells[0].Floor = -1 }, false}, {"undeleted", func(s *api.Shard) { s.Cells[1].Del = false }, false}, {"undeleted, compacted", func(s *api.Shard) { s.Cells[3].Del = false }, true},
		{"event lacks", func(s *api.Shard) { s.Events = s.Events[1:] }, false}, {"last lacks", func(s *api.Shard) { s.Events = s.Events[:3] }, false}, {"no events", func(s *api.Shard) { s.Events = nil }, false}, {"other order", func(s *api.Shard) { s.Events[0], s.Events[1] = s.Events[1], s.Events[0] }, true}, {"wrong order", func(s *api.Shard) { s.Events[0], s.Events[2] = s.Events[2], s.Events[0] }, false}, {"no cell's", func(s *api.Shard) { s.Events = append(s.Events, was("n", 1, "v")) }, false}, {"other value", func(s *api.Shard) { s.Events[3].Value = "y" }, false}, {"past value", func(s *api.Shard) { s.Events[0].Value = fullest }, true}, {"past deleted", func(s *api.Shard) { s.Events[1].Del = true }, true}, {"event large", func(s *api.Shard) { s.Events[0].Value = tooMuch }, false}, {"24 events", func(s *api.Shard) { *s = long(api.MaxHistory) }, true}, {"25 events", func(s *api.Shard) { *s = long(api.MaxHistory + 1) }, false},
		{"session", func(s *api.Shard) { s.Done[1].Session = 1 }, true}, {"no session", func(s *api.Shard) { s.Done[1].Session = api.MaxSessions }, false}, {"session below", func(s *api.Shard) { s.Done[0].Session = -1 }, false}, {"sessions", func(s *api.Shard) { s.Done[1].Session = 0 }, false}, {"back", func(s *api.Shard) { s.Done[0], s.Done[1] = s.Done[1], s.Done[0] }, false}, {"request 0", func(s *api.Shard) { s.Done[0].ID = 0 }, false}, {"request last", func(s *api.Shard) { s.Done[0].ID = api.MaxRev }, true}, {"request above", func(s *api.Shard) { s.Done[0].ID = api.MaxRev + 1 }, false}, {"four", func(s *api.Shard) {
			s.Done = []api.Done{did(0, 1, api.Answer{}), did(1, 1, api.Answer{}), did(2, 1, api.Answer{}), did(3, 1, api.Answer{})}
		}, false},
		{"code below", func(s *api.Shard) { s.Done[0].Answer.Code = -1 }, false}, {"code bound", func(s *api.Shard) { s.Done[0].Answer.Code = bound }, false}, {"answered", func(s *api.Shard) { s.Done[0].Answer.Value = widest }, true}, {"answered more", func(s *api.Shard) { s.Done[0].Answer.Value = tooWide }, false}, {"16 rows", func(s *api.Shard) { s.Done[1].Answer.Rows = rows(16) }, true}, {"17 rows", func(s *api.Shard) { s.Done[1].Answer.Rows = rows(17) }, false}, {"row", func(s *api.Shard) { s.Done[1].Answer.Rows[1] = spoilt }, false},
	}
}

// packed: the document's words once more, of a shard good or not: what is within the frame.
func packed(s api.Shard) string {
	n, text := pack.Num, pack.Text
	l := []string{n(s.ID), n(s.Epoch), text(s.Span.From), text(s.Span.To), pack.Flag(s.Frozen), n(len(s.Cells))}
	for _, c := range s.Cells {
		l = append(l, text(c.Key), text(c.Value), n(c.Version), pack.Flag(c.Del), n(c.Floor))
	}
	l = append(l, n(len(s.Events)))
	for _, e := range s.Events {
		l = append(l, text(e.Key), n(e.Version), text(e.Value), pack.Flag(e.Del))
	}
	l = append(l, n(len(s.Done)))
	for _, d := range s.Done {
		l = append(l, n(d.Session), n(d.ID), op.AnswerBytes(d.Answer))
	}
	return strings.Join(l, "")
}

// left: what is still to be read; a wrong byte ends it by a panic.
type left string

func next[T any](l *left, take func(string) (T, string, error)) T {
	x, behind, err := take(string(*l))
	if err != nil {
		panic(err)
	}
	*l = left(behind)
	return x
}

func (l *left) num() int { return next(l, pack.Take) }

func (l *left) text() string {
	return next(l, func(s string) (string, string, error) { return pack.TakeText(s, api.MaxDisk) })
}

func (l *left) flag() bool { return next(l, pack.TakeFlag) }

// readOf: the document's words of Read once more.
func readOf(b string) (s api.Shard, code api.Errno) {
	text, behind, err := frame.Open(b)
	if err != nil {
		return api.Shard{}, fault.Code(err)
	}
	defer func() {
		if recover() != nil {
			s, code = api.Shard{}, api.ErrForm
		}
	}()
	l := left(text)
	s = api.Shard{ID: l.num(), Epoch: l.num(), Span: sp(l.text(), l.text()), Frozen: l.flag()}
	for range l.num() {
		s.Cells = append(s.Cells, api.Cell{Key: l.text(), Value: l.text(), Version: l.num(), Del: l.flag(), Floor: l.num()})
	}
	for range l.num() {
		s.Events = append(s.Events, api.Event{Key: l.text(), Version: l.num(), Value: l.text(), Del: l.flag()})
	}
	for range l.num() {
		s.Done = append(s.Done, did(l.num(), l.num(), next(&l, op.ReadAnswer)))
	}
	if l != "" || behind != "" || !shard.Is(s) {
		panic(api.ErrForm)
	}
	return s, api.OK
}

// isCode: whether err is what the document means by an error with this Code, and by no other one.
func isCode(err error, code api.Errno) bool {
	if code == api.OK {
		return err == nil
	}
	for _, other := range []api.Errno{api.ErrForm, api.ErrShort, api.ErrSpoilt, api.ErrLarge} {
		if errors.Is(err, other) != (other == code) {
			return false
		}
	}
	return fault.Code(err) == code && err.Error() != ""
}

// read: Read, held against the document's words.
func read(t *testing.T, b string) (api.Shard, error) {
	t.Helper()
	s, err := image.Read(b)
	if want, code := readOf(b); !shard.Same(s, want) || !isCode(err, code) {
		t.Fatalf("P16.1: Read(%.200q): %#v, %v; not %#v, %d", b, s, err, want, code)
	}
	return s, err
}

// isRefused: read, where there must be that error.
func isRefused(t *testing.T, name, b string, code api.Errno) {
	t.Helper()
	if s, err := read(t, b); !shard.Same(s, api.Shard{}) || !isCode(err, code) {
		t.Errorf("P16.1: %s: Read(%.200q): %#v, %v; not %d", name, b, s, err, code)
	}
}

// P16.1: byte by byte.
func TestBytes(t *testing.T) {
	for i, x := range []struct {
		s    api.Shard
		want string
	}{
		{shard.New(1, 1, all), "\x01\x01\x00\x00\x00" + "\x00\x00\x00"},
		{frozen(shard.New(64, 65, sp("b", "reed"))), "\x40\x01\x41\x01\x01b\x04reed\x01" + "\x00\x00\x00"},
		{api.Shard{ID: 2, Epoch: 3, Span: sp("", "z"), Cells: []api.Cell{is("reed", "tall", 5, 4), gone("shore", 66, 66)}, Events: []api.Event{was("reed", 5, "tall")}},
			"\x02\x03\x00\x01z\x00" + "\x02\x04reed\x04tall\x05\x00\x04\x05shore\x00\x42\x01\x01\x42\x01" + "\x01\x04reed\x05\x04tall\x00" + "\x00"},
		{api.Shard{ID: 1, Epoch: 1, Cells: []api.Cell{gone("b", 2, 0)}, Events: []api.Event{was("b", 1, ""), wasDel("b", 2)}},
			"\x01\x01\x00\x00\x00" + "\x01\x01b\x00\x02\x01\x00" + "\x02\x01b\x01\x00\x00\x01b\x02\x00\x01" + "\x00"},
		{api.Shard{ID: 1, Epoch: 1, Done: []api.Done{did(0, 64, api.Answer{Code: 15, Version: 3}), did(2, 7, api.Answer{Value: "v", Rows: []api.Row{{Key: "b", Value: "c", Version: 9}}})}},
			"\x01\x01\x00\x00\x00" + "\x00\x00" + "\x02\x00\x40\x01\x0f\x00\x03\x00\x02\x07\x00\x01v\x00\x01\x01b\x01c\x09"},
	} {
		if got := image.Bytes(x.s); got != frame.Wrap(x.want) {
			t.Errorf("P16.1: row %d: Bytes(%#v): %q", i, x.s, got)
		}
	}
	for _, s := range append(shards(), many(4096)) {
		if got := image.Bytes(s); got != frame.Wrap(packed(s)) {
			t.Errorf("P16.1: Bytes(%#v): %q", s, got)
		}
	}
}

// P16.1: of what isn't shard's Is none; and what is packed of it all the same isn't read.
func TestChanges(t *testing.T) {
	for _, x := range append(headChanges(), listChanges()...) {
		s, want := harbour(), ""
		x.by(&s)
		whole := frame.Wrap(packed(s))
		if x.good {
			want = whole
		}
		if got := image.Bytes(s); got != want || shard.Is(s) != x.good {
			t.Errorf("P16.1: %s: Bytes(%#v): %q", x.name, s, got)
		}
		if got, err := read(t, whole); x.good && (err != nil || !shard.Same(got, s)) {
			t.Errorf("P16.1: %s: Read of it: %#v, %v", x.name, got, err)
		}
	}
	if got := image.Bytes(api.Shard{}); got != "" {
		t.Errorf("P16.1: Bytes of none: %q", got)
	}
}

// P16.1: a row an error, and those where several apply: the frame's come first, all else is ill-formed.
func TestReadErrors(t *testing.T) {
	fits := image.Bytes(harbour())
	more := "sum," + pack.Num(api.MaxDisk+1)
	for _, x := range []struct {
		name, b string
		code    api.Errno
	}{
		{"nothing", "", api.ErrShort}, {"no sum", "\x80\x80\x80", api.ErrShort}, {"sum alone", "sum,", api.ErrShort}, {"cut off", fits[:len(fits)-1], api.ErrShort}, {"spoilt and cut off", "sum," + fits[4:len(fits)-1], api.ErrShort}, {"half a length", "sum,\x40", api.ErrShort},
		{"wrong length", "sum,\x80", api.ErrForm}, {"longer length", "sum,\x40\x00", api.ErrForm}, {"large", more, api.ErrLarge}, {"large, and more", more + fits, api.ErrLarge},
		{"other sum", "sum," + fits[4:], api.ErrSpoilt}, {"other sum, and more", "sum," + fits[4:] + fits, api.ErrSpoilt}, {"sum of nothing", "sum,\x00", api.ErrSpoilt},
		{"byte behind", fits + "\x00", api.ErrForm}, {"twice", fits + fits, api.ErrForm}, {"cut off behind", fits + fits[:3], api.ErrForm}, {"framed twice", frame.Wrap(fits), api.ErrForm}, {"frame of nothing", frame.Wrap(""), api.ErrForm}, {"not framed", packed(shard.New(1, 1, all)), api.ErrSpoilt},
		{"a letter", letter.Bytes(api.Letter{Kind: api.LMap, From: api.Sessions, To: api.Mover}), api.ErrForm}, {"an answer", frame.Wrap(op.AnswerBytes(api.Answer{})), api.ErrForm},
	} {
		isRefused(t, x.name, x.b, x.code)
	}
}

// P16.1: within a whole frame nothing is short, and nothing too large.
func TestReadIllFormed(t *testing.T) {
	fresh, head, most := packed(shard.New(1, 1, all)), "\x01\x01\x00\x00\x00", pack.Num(bound-1)
	answer := op.AnswerBytes(api.Answer{})
	seventeen := "\x00\x00\x00\x11" + strings.Repeat("\x01b\x00\x01", 17)
	for name, text := range map[string]string{
		"cut off": fresh[:len(fresh)-1], "byte behind": fresh + "\x00", "twice": fresh + fresh, "byte ahead": "\x00" + fresh, "no numbers": "\x80", "bound": pack.Num(bound) + fresh[1:], "half a number": "\x41",
		"longer number": "\x41\x00" + fresh[1:], "ID 0": "\x00" + fresh[1:], "Epoch 0": "\x01\x00" + fresh[2:], "long From": "\x01\x01" + pack.Text(tooLong) + fresh[3:], "longer From": "\x01\x01" + pack.Text(tooWide) + fresh[3:], "From lacks": "\x01\x01\x08k", "Flag": "\x01\x01\x00\x00\x02" + fresh[5:],
		"cells lack": head + "\x01", "most cells lack": head + most, "half a cell": head + "\x01\x01b\x01v", "large key": head + "\x01" + pack.Text(tooWide) + "\x00\x01\x00\x01\x00\x00", "large value": head + "\x01\x01b" + pack.Text(tooWide) + "\x01\x00\x01\x00\x00", "Del": head + "\x01\x01b\x00\x01\x02\x01\x00\x00", "one cell more": head + "\x00\x01b\x00\x01\x00\x01\x00\x00",
		"events lack": head + "\x00\x01", "most events lack": head + "\x00" + most, "25 events": packed(long(25)), "Del of an event": head + "\x01\x01b\x00\x01\x00\x00\x01\x01b\x01\x00\x03\x00", "half an event": head + "\x01\x01b\x00\x01\x00\x00\x01\x01b\x01",
		"Done lacks": head + "\x00\x00\x01", "most Done lack": head + "\x00\x00" + most, "no answer": head + "\x00\x00\x01\x00\x01", "half an answer": head + "\x00\x00\x01\x00\x01" + answer[:2], "four Done": head + "\x00\x00\x04" + strings.Repeat("\x00\x01"+answer, 4), "17 rows": head + "\x00\x00\x01\x00\x01" + seventeen, "large answer": head + "\x00\x00\x01\x00\x01\x00" + pack.Text(tooWide) + "\x00\x00", "session": head + "\x00\x00\x01\x03\x01" + answer, "request": head + "\x00\x00\x01\x00\x00" + answer,
	} {
		isRefused(t, name, frame.Wrap(text), api.ErrForm)
	}
}

// P16.1: all texts of so many bytes behind these fronts.
func TestReadAll(t *testing.T) {
	digits, size := "\x00\x01\x02b\x80", 7
	for front, least := range map[string]int{"\x01\x01": 3, "\x01\x01\x00\x00\x00\x01\x01b": 5, "\x01\x01\x00\x00\x00\x01\x01b\x00\x02\x00\x01": 1, "\x01\x01\x00\x00\x00\x00\x00": 5} {
		good := 0
		for i := range int(math.Pow(float64(len(digits)), float64(size))) {
			b := []byte(front)
			for range size {
				b = append(b, digits[i%len(digits)])
				i /= len(digits)
			}
			whole := frame.Wrap(string(b))
			if s, err := read(t, whole); err == nil {
				good++
				if image.Bytes(s) != whole {
					t.Fatalf("P16.3: Bytes of what Read(%q) told: %q", whole, image.Bytes(s))
				}
			}
		}
		if good < least {
			t.Errorf("P16.1: behind %q so few were read: %d", front, good)
		}
	}
}

// P16.1: each byte changed to each other one, within the frame and of the frame; cut off anywhere, and with something behind.
func TestSpoilt(t *testing.T) {
	small := harbour()
	small.Done[1].Answer.Rows = []api.Row{{Key: "b", Value: "w", Version: 1}}
	for _, s := range []api.Shard{shard.New(1, 1, all), small, frozen(long(1))} {
		text, whole := packed(s), image.Bytes(s)
		for b := range 256 {
			other := string([]byte{byte(b)})
			for i := range text {
				read(t, frame.Wrap(text[:i]+other+text[i+1:]))
			}
			for i := range whole {
				spoilt := whole[:i] + other + whole[i+1:]
				if got, err := read(t, spoilt); (err == nil) != (spoilt == whole) {
					t.Fatalf("P16.1: byte %d of %q made %d: %#v, %v", i, whole, b, got, err)
				}
			}
		}
		for i := range len(whole) {
			isRefused(t, "cut off", whole[:i], api.ErrShort)
		}
		for i := range len(text) {
			isRefused(t, "cut off within", frame.Wrap(text[:i]), api.ErrForm)
		}
		for _, tail := range []string{"\x00", "\x80", "tail", whole, text} {
			isRefused(t, "behind", whole+tail, api.ErrForm)
			isRefused(t, "behind within", frame.Wrap(text+tail), api.ErrForm)
		}
	}
}

// P16.1: at as many bytes as a frame may have it is read, at one more it is too large, whatever is behind.
func TestLargest(t *testing.T) {
	s := many(10000)
	at := &s.Cells[9999].Value
	*at = (*at)[:api.MaxValue-(len(packed(s))-api.MaxDisk)]
	largest := image.Bytes(s)
	if got, err := image.Read(largest); len(packed(s)) != 200000 || err != nil || !shard.Same(got, s) {
		t.Errorf("P16.1: of %d bytes: %d cells, %v", len(largest), len(got.Cells), err)
	}
	*at += "v"
	larger := image.Bytes(s)
	if larger != frame.Wrap(packed(s)) || len(larger) != len(largest)+1 {
		t.Errorf("P16.1: Bytes of one more: %d bytes", len(larger))
	}
	isRefused(t, "one more", larger, api.ErrLarge)
	isRefused(t, "one more, and one behind", larger+"\x00", api.ErrLarge)
	isRefused(t, "one more, cut off", larger[:100], api.ErrLarge)
}

// P16.2: at each number of bytes around the edges.
func TestPieces(t *testing.T) {
	b := image.Bytes(many(60))
	for n, want := range map[int][]int{0: nil, 1: {1}, 2: {2}, 63: {63}, 64: {64}, 65: {64, 1}, 127: {64, 63}, 128: {64, 64}, 129: {64, 64, 1}, 640: {64, 64, 64, 64, 64, 64, 64, 64, 64, 64}, 641: {64, 64, 64, 64, 64, 64, 64, 64, 64, 64, 1}} {
		var sizes []int
		for _, p := range image.Pieces(b[:n]) {
			sizes = append(sizes, len(p))
		}
		if !slices.Equal(sizes, want) {
			t.Errorf("P16.2: Pieces of %d bytes: %v", n, sizes)
		}
	}
	for n := range 1000 {
		p := image.Pieces(b[:n])
		for i, x := range p {
			if x != b[i*64:min(i*64+64, n)] {
				t.Fatalf("P16.2: piece %d of %d bytes: %q", i, n, x)
			}
		}
		if len(p) != (n+63)/64 || image.Join(p) != b[:n] {
			t.Fatalf("P16.2: of %d bytes %d pieces: %q", n, len(p), image.Join(p))
		}
	}
	if p := image.Pieces(strings.Repeat("\x80", 1<<22)); len(p) != 1<<16 || p[1<<16-1] != strings.Repeat("\x80", 64) {
		t.Errorf("P16.2: of many: %d", len(p))
	}
}

// P16.2: of pieces of any size, in the order that they are in.
func TestJoin(t *testing.T) {
	for _, x := range []struct {
		p    []string
		want string
	}{
		{nil, ""}, {[]string{}, ""}, {[]string{""}, ""}, {[]string{"", "", ""}, ""}, {[]string{"reed"}, "reed"}, {[]string{"b", "a", "b"}, "bab"}, {[]string{"", "\x00", "", "\xff", ""}, "\x00\xff"}, {[]string{tooWide, "b", tooWide}, tooWide + "b" + tooWide}, {slices.Repeat([]string{"ab"}, 1<<18), strings.Repeat("ab", 1<<18)},
	} {
		if got := image.Join(x.p); got != x.want {
			t.Errorf("P16.2: Join(%.50q): %.50q", x.p, got)
		}
	}
}

// P16.3: there and back; of unlike ones unlike bytes, of like ones the same.
func TestThereAndBack(t *testing.T) {
	wrote := map[string]api.Shard{}
	l := shards()
	for _, x := range append(headChanges(), listChanges()...) {
		s := harbour()
		if x.by(&s); x.good {
			l = append(l, s)
		}
	}
	for _, s := range l {
		b := image.Bytes(s)
		if got, err := read(t, b); err != nil || !shard.Same(got, s) || image.Bytes(got) != b {
			t.Errorf("P16.3: Read of Bytes(%#v): %#v, %v", s, got, err)
		}
		if other, there := wrote[b]; there && !shard.Same(other, s) {
			t.Errorf("P16.3: one text of two: %#v, %#v", other, s)
		}
		wrote[b] = s
	}
	if len(wrote) < 30 {
		t.Errorf("P16.3: %d shards are few", len(wrote))
	}
}

// carried: a shard as it is behind its way from node to node: by pieces, each in a letter.
func carried(t *testing.T, s api.Shard) api.Shard {
	t.Helper()
	var came []string
	for i, p := range image.Pieces(image.Bytes(frozen(s))) {
		l, err := letter.Read(letter.Bytes(api.Letter{Kind: api.LPiece, From: 1, To: api.Mover, N: [5]int{s.ID, s.Epoch, i}, Data: p}))
		if err != nil || l.N != [5]int{s.ID, s.Epoch, i} {
			t.Fatalf("P16.3: piece %d of %#v: %#v, %v", i, s, l, err)
		}
		came = append(came, l.Data)
	}
	got, err := image.Read(image.Join(came))
	if err != nil || !shard.Same(got, frozen(s)) {
		t.Fatalf("P16.3: %#v came as %#v, %v", s, got, err)
	}
	got.Epoch, got.Frozen = s.Epoch+1, false
	return got
}

// P16.3: by all orders of some requests coming, each as often as may be: one that is moved ahead of each of them answers what one that stays answers.
func TestMoved(t *testing.T) {
	l := []struct {
		session, id int
		o           api.Op
	}{
		{0, 1, api.Op{Kind: api.OPut, Key: "b", Value: "1"}}, {0, 2, api.Op{Kind: api.ODel, Key: "b"}}, {0, 3, api.Op{Kind: api.OGet, Key: "b"}}, {1, 1, api.Op{Kind: api.OCas, Key: "b", Value: "c", Version: 1}},
		{1, 2, api.Op{Kind: api.OBatch, Writes: []api.Write{{Key: "b", Value: "w"}, {Key: "reed", Value: fullest}}}}, {2, 1, api.Op{Kind: api.OCompact, Key: "b", Version: 1}}, {2, 2, api.Op{Kind: api.ORange, Key: "b", To: "s"}}, {2, 3, api.Op{Kind: api.OPut, Key: "reed", Value: tooMuch}},
	}
	for end := range 1 << 12 { // its digits of three bits are the steps
		stayed := shard.New(7, 1, sp("b", "s"))
		moved := stayed
		for i := range 4 {
			r := l[end>>(3*i)%8]
			var a, b api.Answer
			var n, m int
			stayed, a, n = shard.Ask(stayed, r.session, r.id, r.o)
			moved, b, m = shard.Ask(carried(t, moved), r.session, r.id, r.o)
			news, compacted := shard.Feed(stayed, all, nil, 8)
			others, gone := shard.Feed(moved, all, nil, 8)
			if !op.SameAnswer(a, b) || n != m || !slices.Equal(news, others) || compacted != gone || moved.Epoch != i+2 {
				t.Fatalf("P16.3: row %d, step %d: %#v, %d, %#v, %v; moved: %#v, %d, %#v, %v", end, i, a, n, news, compacted, b, m, others, gone)
			}
		}
		if moved.Epoch = stayed.Epoch; !shard.Same(stayed, moved) {
			t.Fatalf("P16.3: row %d: %#v; moved: %#v", end, stayed, moved)
		}
	}
}

// P16.3: a piece that lacks, comes twice, or comes in another's place shows.
func TestPiecesShow(t *testing.T) {
	whole := image.Pieces(image.Bytes(harbour()))
	if len(whole) < 5 {
		t.Fatalf("P16.3: %d pieces are few", len(whole))
	}
	for i := range whole {
		for name, p := range map[string][]string{"lacks": slices.Delete(slices.Clone(whole), i, i+1), "comes twice": slices.Insert(slices.Clone(whole), i, whole[i]), "comes late": append(slices.Delete(slices.Clone(whole), i, i+1), whole[i])} {
			if i == len(whole)-1 && name == "comes late" {
				continue
			}
			if s, err := read(t, image.Join(p)); err == nil {
				t.Errorf("P16.3: piece %d %s: %#v", i, name, s)
			}
		}
	}
}

// spoil: all of a list, the spare room too.
func spoil[T any](l []T, by T) {
	l = l[:cap(l)]
	for i := range l {
		l[i] = by
	}
}

// roomy: a list with two of these as spare room behind it.
func roomy[T any](l []T, by T) []T {
	return append(slices.Clone(l), by, by)[:len(l)]
}

// lists: harbour with spare room behind each list.
func lists() api.Shard {
	s := harbour()
	s.Cells, s.Events = roomy(s.Cells, is("spare", "", 7, 0)), roomy(s.Events, was("spare", 7, ""))
	s.Done = roomy(s.Done, did(7, 7, api.Answer{}))
	s.Done[1].Answer.Rows = roomy(s.Done[1].Answer.Rows, api.Row{Key: "spare", Version: 7})
	return s
}

// P16.1, P16.2: what is handed in is neither changed nor kept; no two answers share memory, nor do two lists of one, their spare room included.
func TestMemory(t *testing.T) {
	given, before := lists(), lists()
	b := image.Bytes(given)
	given.Cells, given.Events, given.Done = given.Cells[:6], given.Events[:6], given.Done[:4]
	before.Cells, before.Events, before.Done = before.Cells[:6], before.Events[:6], before.Done[:4]
	given.Done[1].Answer.Rows, before.Done[1].Answer.Rows = given.Done[1].Answer.Rows[:4], before.Done[1].Answer.Rows[:4]
	if !shard.Same(given, before) {
		t.Errorf("P16.1: what was handed in is changed: %#v", given)
	}
	first, _ := image.Read(b)
	second, _ := image.Read(b)
	spoil(first.Cells, is("spoilt", "", -9, -9))
	spoil(first.Events, was("spoilt", -9, ""))
	for _, d := range first.Done {
		spoil(d.Answer.Rows, spoilt)
	}
	spoil(first.Done, did(-9, -9, api.Answer{}))
	if third, err := image.Read(b); err != nil || !shard.Same(second, harbour()) || !shard.Same(third, harbour()) {
		t.Errorf("P16.1: what was answered is changed: %#v, %#v, %v", second, third, err)
	}
	s, _ := image.Read(image.Bytes(spent()))
	spoil(s.Done[0].Answer.Rows, spoilt)
	if !slices.Equal(s.Done[2].Answer.Rows, rows(1)) {
		t.Errorf("P16.1: two lists share memory: %#v", s.Done)
	}
	one, two := image.Pieces(b), image.Pieces(b)
	spoil(one, "spoilt")
	if image.Join(two) != b || image.Join(image.Pieces(b)) != b {
		t.Errorf("P16.2: what was answered is changed: %q", two)
	}
	if p := roomy(two, "spare"); image.Join(p) != b || !slices.Equal(p[:len(p)+2], append(two, "spare", "spare")) {
		t.Errorf("P16.2: what was handed in is changed: %q", p)
	}
}

// P16.1: of long lists and texts, good or not, each call comes back soon.
func TestHuge(t *testing.T) {
	n := 1 << 20
	for name, s := range map[string]api.Shard{"cells": {ID: 1, Epoch: 1, Cells: make([]api.Cell, n)}, "events": {ID: 1, Epoch: 1, Events: make([]api.Event, n)}, "done": {ID: 1, Epoch: 1, Done: make([]api.Done, n)}, "rows": {ID: 1, Epoch: 1, Done: []api.Done{did(0, 1, api.Answer{Rows: make([]api.Row, n)})}}, "span": shard.New(1, 1, sp(strings.Repeat("f", n), ""))} {
		if b := image.Bytes(s); b != "" {
			t.Errorf("P16.1: Bytes of many %s: %.50q", name, b)
		}
	}
	s := many(n)
	if b := image.Bytes(s); b != frame.Wrap(packed(s)) {
		t.Errorf("P16.1: Bytes of many good cells: %d bytes", len(b))
	}
	isRefused(t, "many good cells", image.Bytes(s), api.ErrLarge)
	isRefused(t, "noughts", strings.Repeat("\x00", n), api.ErrSpoilt)
	isRefused(t, "ones", frame.Wrap(strings.Repeat("\x01", api.MaxDisk)), api.ErrForm)
	isRefused(t, "cells of nothing", frame.Wrap("\x01\x01\x00\x00\x00"+pack.Num(30000)+strings.Repeat("\x00", 150002)), api.ErrForm)
}
