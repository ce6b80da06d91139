package parts_test

import (
	"slices"
	"testing"

	"estuary/api"
	"estuary/fault"
	"estuary/pack"
	"estuary/parts"
)

// What is put is taken, part by part, and what is behind is left.
func TestTaker(t *testing.T) {
	k := parts.Taker{Left: pack.Num(65) + pack.Text("reed") + pack.Flag(true) + parts.Bytes([]int{3, 0, 64}, pack.Num) + pack.Text("by") + "tail"}
	n, text, flag := k.Num(), k.Text(4), k.Flag()
	l := parts.List(&k, 3, (*parts.Taker).Num)
	by := parts.By(&k, func(s string) (string, string, error) { return pack.TakeText(s, 2) })
	if n != 65 || text != "reed" || !flag || !slices.Equal(l, []int{3, 0, 64}) || by != "by" || k.Left != "tail" || k.Err != nil {
		t.Errorf("%d, %q, %v, %v, %q, %+v", n, text, flag, l, by, k)
	}
}

// Behind an error nothing is taken, and the first one stays.
func TestTakerErrors(t *testing.T) {
	for s, code := range map[string]api.Errno{"": api.ErrShort, "\x05reeds": api.ErrLarge, "\x80": api.ErrForm} {
		k := parts.Taker{Left: s}
		k.Text(4)
		n, text, flag, l := k.Num(), k.Text(9), k.Flag(), parts.List(&k, 9, (*parts.Taker).Num)
		by := parts.By(&k, pack.Take)
		if fault.Code(k.Err) != code || k.Left != s || n != 0 || text != "" || flag || len(l) != 0 || by != 0 {
			t.Errorf("of %q: %d, %q, %v, %v, %d, %+v", s, n, text, flag, l, by, k)
		}
	}
}

// Too many are told ahead of what lacks; what lacks ends the list, whatever its number.
func TestList(t *testing.T) {
	most := 1<<48 - 1
	for _, c := range []struct {
		s    string
		most int
		want []int
		code api.Errno
	}{
		{"\x00", 0, nil, api.OK}, {"\x02\x07\x08", 2, []int{7, 8}, api.OK}, {"\x03\x07\x08\x09", 2, nil, api.ErrLarge}, {"\x03", 2, nil, api.ErrLarge}, {"\x02\x07", 2, []int{7, 0}, api.ErrShort}, {pack.Num(most) + "\x07\x80\x07", most, []int{7, 0}, api.ErrForm}, {"", 2, nil, api.ErrShort},
	} {
		k := parts.Taker{Left: c.s}
		if l := parts.List(&k, c.most, (*parts.Taker).Num); !slices.Equal(l, c.want) || fault.Code(k.Err) != c.code {
			t.Errorf("of %q: %v, %v", c.s, l, k.Err)
		}
	}
}

func TestBytes(t *testing.T) {
	if got := parts.Bytes(nil, pack.Text); got != "\x00" {
		t.Errorf("of none: %q", got)
	}
	if got := parts.Bytes([]string{"a", "", "reed"}, pack.Text); got != "\x03\x01a\x00\x04reed" {
		t.Errorf("of three: %q", got)
	}
}
