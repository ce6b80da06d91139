package parts_test

import (
	"slices"
	"strings"
	"testing"

	"estuary/api"
	"estuary/fault"
	"estuary/pack"
	"estuary/parts"
)

// What is put is taken, part by part, and what is behind is left.
func TestTaker(t *testing.T) {
	k := parts.Taker{Left: pack.Num(65) + pack.Text("reed") + pack.Flag(true) + parts.Bytes([]int{3, 0, 64}, pack.Num) + pack.Text("by") + "tail"}
	n, text, flag := k.Num(), k.Text(4), k.Flag()
	l := parts.List(&k, 3, (*parts.Taker).Num)
	by := parts.By(&k, func(s string) (string, string, error) { return pack.TakeText(s, 2) })
	if n != 65 || text != "reed" || !flag || !slices.Equal(l, []int{3, 0, 64}) || by != "by" || k.Left != "tail" || k.Err != nil {
		t.Errorf("%d, %q, %v, %v, %q, %+v", n, text, flag, l, by, k)
	}
}

// Behind an error nothing is taken, and the first one stays.
func TestTakerErrors(t *testing.T) {
	for s, code := range map[string]api.Errno{"": api.ErrShort, "\x05reeds": api.ErrLarge, "\x80": api.ErrForm} {
		k := parts.Taker{Left: s}
		k.Text(4)
		n, text, flag, l := k.Num(), k.Text(9), k.Flag(), parts.List(&k, 9, (*parts.Taker).Num)
		by := parts.By(&k, pack.Take)
		if fault.Code(k.Err) != code || k.Left != s || n != 0 || text != "" || flag || len(l) != 0 || by != 0 {
			t.Errorf("of %q: %d, %q, %v, %v, %d, %+v", s, n, text, flag, l, by, k)
		}
	}
}

// Too many are told ahead of what lacks; what lacks ends the list, whatever its number.
func TestList(t *testing.T) {
	most := 1<<48 - 1
	for _, c := range []struct {
		s    string
		most int
		want []int
		code api.Errno
	}{
		{"\x00", 0, nil, api.OK}, {"\x02\x07\x08", 2, []int{7, 8}, api.OK}, {"\x03\x07\x08\x09", 2, nil, api.ErrLarge}, {"\x03", 2, nil, api.ErrLarge}, {"\x02\x07", 2, []int{7, 0}, api.ErrShort}, {pack.Num(most) + "\x07\x80\x07", most, []int{7, 0}, api.ErrForm}, {"", 2, nil, api.ErrShort},
	} {
		k := parts.Taker{Left: c.s}
		if l := parts.List(&k, c.most, (*parts.Taker).Num); !slices.Equal(l, c.want) || fault.Code(k.Err) != c.code {
			t.Errorf("of %q: %v, %v", c.s, l, k.Err)
		}
	}
}

// A Span and an Event, there and back, with texts up to the longest that are taken.
func TestSpanAndEvent(t *testing.T) {
	longest := strings.Repeat("v", 255)
	for _, x := range []struct {
		s    api.Span
		e    api.Event
		want string
	}{
		{api.Span{}, api.Event{}, "\x00\x00" + "\x00\x00\x00\x00"},
		{api.Span{From: "b"}, api.Event{Key: "b", Version: 64, Value: "tall"}, "\x01b\x00" + "\x01b\x40\x01\x04tall\x00"},
		{api.Span{From: "z", To: "a"}, api.Event{Key: "b", Version: 2, Del: true}, "\x01z\x01a" + "\x01b\x02\x00\x01"},
		{api.Span{To: longest}, api.Event{Value: longest}, "\x00" + pack.Text(longest) + "\x00\x00" + pack.Text(longest) + "\x00"},
	} {
		put := parts.SpanBytes(x.s) + parts.EventBytes(x.e)
		k := parts.Taker{Left: put + "tail"}
		s, e := k.Span(), k.Event()
		if put != x.want || s != x.s || e != x.e || k.Left != "tail" || k.Err != nil {
			t.Errorf("of %+v, %+v: %q: %+v, %+v, %+v", x.s, x.e, put, s, e, k)
		}
	}
}

// What is too long, or cut off, is an error of it; behind that nothing is taken.
func TestSpanAndEventErrors(t *testing.T) {
	tooLong := pack.Text(strings.Repeat("v", 256))
	for _, x := range []struct {
		s    string
		code api.Errno
	}{
		{tooLong + "\x00\x00\x00\x00\x00", api.ErrLarge}, {"\x00" + tooLong + "\x00\x00\x00\x00", api.ErrLarge}, {"\x00\x00" + tooLong + "\x00\x00\x00", api.ErrLarge}, {"\x00\x00\x00\x00" + tooLong + "\x00", api.ErrLarge},
		{"", api.ErrShort}, {"\x00", api.ErrShort}, {"\x00\x00", api.ErrShort}, {"\x00\x00\x00\x00\x00", api.ErrShort}, {"\x00\x00\x00\x00\x00\x02", api.ErrForm},
	} {
		k := parts.Taker{Left: x.s}
		if s, e := k.Span(), k.Event(); s != (api.Span{}) || e != (api.Event{}) || fault.Code(k.Err) != x.code {
			t.Errorf("of %.20q: %+v, %+v, %v", x.s, s, e, k.Err)
		}
	}
}

func TestBytes(t *testing.T) {
	if got := parts.Bytes(nil, pack.Text); got != "\x00" {
		t.Errorf("of none: %q", got)
	}
	if got := parts.Bytes([]string{"a", "", "reed"}, pack.Text); got != "\x03\x01a\x00\x04reed" {
		t.Errorf("of three: %q", got)
	}
}
