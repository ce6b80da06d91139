package frame_test

import (
	"encoding/binary"
	"errors"
	"hash/fnv"
	"slices"
	"strings"
	"testing"

	"estuary/api"
	"estuary/fault"
	"estuary/frame"
	"estuary/pack"
)

// longest: the longest text that is opened; larger: one byte more.
var (
	longest = strings.Repeat("l", api.MaxDisk)
	larger  = longest + "l"
)

// texts: of all lengths that matter to their Num, and of odd bytes.
func texts() []string {
	all := []string{"", "a", "reed", "\x00", "\x80", "\xff\xfe", "é", "a\x00b", pack.Text("packed"), frame.Wrap("framed"), strings.Repeat(frame.Wrap(""), 3)}
	for _, n := range []int{2, 3, 4, 5, 12, 62, 63, 64, 65, 255, 4095, 4096} {
		all = append(all, strings.Repeat("t", n), strings.Repeat("\x00", n), strings.Repeat("\xff", n))
	}
	return all
}

// every: all 256 bytes.
func every() string {
	var b []byte
	for i := range 256 {
		b = append(b, byte(i))
	}
	return string(b)
}

// strung: all texts of 0 to n of these bytes.
func strung(bytes string, n int) []string {
	all, last := []string{""}, []string{""}
	for range n {
		var next []string
		for _, s := range last {
			for i := range len(bytes) {
				next = append(next, s+bytes[i:i+1])
			}
		}
		all, last = append(all, next...), next
	}
	return all
}

// summed: the document's words of Sum once more, by the library.
func summed(s string) uint32 {
	h := fnv.New32a()
	h.Write([]byte(s))
	return h.Sum32()
}

// framed: these packed bytes behind their sum, be they ill-formed.
func framed(packed string) string {
	return string(binary.LittleEndian.AppendUint32(nil, summed(packed))) + packed
}

// opened: the document's words of Open once more, in another way than the program's: what is read is written again.
func opened(s string) (string, string, api.Errno) {
	if len(s) < 4 {
		return "", s, api.ErrShort
	}
	text, rest, err := pack.TakeText(s[4:], api.MaxDisk)
	if err != nil {
		return "", s, fault.Code(err)
	}
	if framed(pack.Text(text))+rest != s {
		return "", s, api.ErrSpoilt
	}
	return text, rest, api.OK
}

// allOpened: likewise of All, from the first one on.
func allOpened(s string) ([]string, int) {
	text, rest, code := opened(s)
	if code != api.OK {
		return nil, 0
	}
	texts, n := allOpened(rest)
	return append([]string{text}, texts...), len(s) - len(rest) + n
}

// isCode: whether err is what the document means by an error with this Code.
func isCode(err error, code api.Errno) bool {
	if code == api.OK {
		return err == nil
	}
	var got api.Errno
	if err == nil || fault.Code(err) != code || !errors.As(err, &got) || got != code || err.Error() == "" {
		return false
	}
	for c := api.OK; c <= api.ErrLine; c++ {
		if errors.Is(err, c) != (c == code) {
			return false
		}
	}
	return true
}

// isRefused: whether Open tells this error of s, and nothing else.
func isRefused(s string, code api.Errno) bool {
	text, rest, err := frame.Open(s)
	return text == "" && rest == s && isCode(err, code)
}

// P5.1
func TestSum(t *testing.T) {
	for s, want := range map[string]uint32{
		"": 2166136261, "\x00": 84696351, "a": 3826002220, "foobar": 3214735720,
		"\xff": 2047574606, "é": 513665217, "\x02\xff\x00": 664817738, "\x04reed": 3478894067,
	} {
		if got := frame.Sum(s); got != want {
			t.Errorf("P5.1: Sum(%q): %d", s, got)
		}
	}
	for _, s := range slices.Concat(strung(every(), 2), texts(), []string{longest, larger}) {
		if got := frame.Sum(s); got != summed(s) {
			t.Errorf("P5.1: Sum of %.20q, %d bytes: %d", s, len(s), got)
		}
	}
}

// P5.1: the sum is of the length, too, and its lowest byte is the first one.
func TestWrap(t *testing.T) {
	for s, want := range map[string]string{
		"":                      "\x1f\x5d\x0c\x05\x00",
		"a":                     "\x17\xb6\x74\x4c\x01a",
		"reed":                  "\xf3\xb5\x5b\xcf\x04reed",
		"\xff\x00":              "\x4a\x50\xa0\x27\x02\xff\x00",
		strings.Repeat("t", 64): "\xfa\x8f\xf1\x78\x40\x01" + strings.Repeat("t", 64),
	} {
		if got := frame.Wrap(s); got != want {
			t.Errorf("P5.1: Wrap(%q): %q", s, got)
		}
	}
	for _, s := range slices.Concat(strung(every(), 1), texts(), []string{longest, larger}) {
		if got := frame.Wrap(s); got != framed(pack.Text(s)) {
			t.Errorf("P5.1: Wrap of %.20q, %d bytes", s, len(s))
		}
	}
}

// P5.2: what is wrapped comes back, whatever is behind it.
func TestOpen(t *testing.T) {
	for _, s := range append(texts(), longest) {
		for _, tail := range []string{"", "\x00", "\x80", "tail", frame.Wrap(""), frame.Wrap("tail"), frame.Wrap("tail")[1:]} {
			if text, rest, err := frame.Open(frame.Wrap(s) + tail); text != s || rest != tail || err != nil {
				t.Errorf("P5.2: Open of Wrap of %.20q, %d bytes, and %q: %.20q, %.20q, %v", s, len(s), tail, text, rest, err)
			}
		}
	}
}

// P5.2: a row an error, and those where several apply: the first one is told.
func TestOpenErrors(t *testing.T) {
	most, more := pack.Num(api.MaxDisk), pack.Num(api.MaxDisk+1)
	for _, c := range []struct {
		s    string
		code api.Errno
	}{
		{"", api.ErrShort}, {"\x1f", api.ErrShort}, {"\x80\x80", api.ErrShort}, {"\x1f\x5d\x0c", api.ErrShort},
		{"\x1f\x5d\x0c\x05", api.ErrShort}, {framed(""), api.ErrShort}, {framed("\x40"), api.ErrShort}, {framed("\x01"), api.ErrShort}, {framed("\x3ft"), api.ErrShort},
		{framed("\x80"), api.ErrForm}, {framed("\x80t"), api.ErrForm}, {framed("\x40\x00"), api.ErrForm}, {framed("\x41\x00t"), api.ErrForm}, {framed(pack.Num(1 << 48)), api.ErrForm}, {"sum,\xff", api.ErrForm},
		{framed(more), api.ErrLarge}, {"sum," + more, api.ErrLarge}, {framed(pack.Num(1<<48 - 1)), api.ErrLarge}, {frame.Wrap(larger), api.ErrLarge}, {frame.Wrap(larger) + "l", api.ErrLarge}, {frame.Wrap(larger)[:200000], api.ErrLarge},
		{framed(most), api.ErrShort}, {"sum," + most, api.ErrShort}, {frame.Wrap(longest)[:200000], api.ErrShort}, {"sum,\x05four", api.ErrShort},
		{"sum,\x00", api.ErrSpoilt}, {"sum,\x04four", api.ErrSpoilt}, {"sum,\x03four", api.ErrSpoilt}, {"sum," + pack.Text(longest), api.ErrSpoilt},
		{"\x05\x0c\x5d\x1f\x00", api.ErrSpoilt}, {framed("reed")[:4] + "\x04reed", api.ErrSpoilt}, {frame.Wrap("")[1:] + "\x00", api.ErrSpoilt},
	} {
		if !isRefused(c.s, c.code) {
			text, rest, err := frame.Open(c.s)
			t.Errorf("P5.2: Open of %.20q, %d bytes: %.20q, %.20q, %v; not %d", c.s, len(c.s), text, rest, err, c.code)
		}
	}
	for _, s := range slices.Concat(strung("\x00\x01\x1f\x5d\x0c\x05\x80", 6), strung(every(), 2)) {
		for _, tail := range []string{"", frame.Wrap(""), frame.Wrap("a")} {
			wtext, wrest, code := opened(s + tail)
			if text, rest, err := frame.Open(s + tail); text != wtext || rest != wrest || fault.Code(err) != code || (err == nil) != (code == api.OK) {
				t.Fatalf("P5.2: Open(%q): %q, %q, %v; not %q, %q, %d", s+tail, text, rest, err, wtext, wrest, code)
			}
		}
	}
}

// P5.2: a byte that isn't what was written: in the sum and in the text it is seen as such.
func TestChanged(t *testing.T) {
	for _, s := range []string{"", "a", "reed", "\x00\x00", "é\xff", strings.Repeat("t", 63), strings.Repeat("t", 70)} {
		whole := frame.Wrap(s)
		for i := range len(whole) {
			for x := 1; x < 256; x++ {
				b := []byte(whole)
				b[i] ^= byte(x)
				text, rest, err := frame.Open(string(b))
				_, _, code := opened(string(b))
				if i < 4 || i >= len(whole)-len(s) {
					code = api.ErrSpoilt
				}
				if code == api.OK || text != "" || rest != string(b) || !isCode(err, code) {
					t.Fatalf("P5.2: %q, byte %d changed by %d: %q, %v; not %d", whole, i, x, text, err, code)
				}
			}
		}
	}
}

// P5.2: bytes that change places, too.
func TestSwapped(t *testing.T) {
	for _, s := range texts() {
		b := []byte(frame.Wrap(s))
		for i := 1; i < len(b); i++ {
			if b[i-1] == b[i] {
				continue
			}
			b[i-1], b[i] = b[i], b[i-1]
			if _, rest, err := frame.Open(string(b)); err == nil || rest != string(b) {
				t.Fatalf("P5.2: %.20q, bytes %d and %d swapped: %v", s, i-1, i, err)
			}
			b[i-1], b[i] = b[i], b[i-1]
		}
	}
}

// P5.2: n is of whole frames, not of what is in them.
func TestAll(t *testing.T) {
	a, none, long := frame.Wrap("a"), frame.Wrap(""), frame.Wrap(longest)
	for _, c := range []struct {
		s    string
		want []string
		n    int
	}{
		{"", nil, 0}, {"\x1f", nil, 0}, {none, []string{""}, 5}, {a, []string{"a"}, 6},
		{a + a, []string{"a", "a"}, 12}, {a + none + frame.Wrap("reed"), []string{"a", "", "reed"}, 20}, {long + a, []string{longest, "a"}, len(long) + 6},
		{a + "\x1f\x5d\x0c", []string{"a"}, 6}, {a + "\x1f\x5d\x0c\x05", []string{"a"}, 6}, {a + framed("\x80") + a, []string{"a"}, 6},
		{a + frame.Wrap(larger) + a, []string{"a"}, 6}, {a + none + "sum,\x00" + a, []string{"a", ""}, 11}, {"\x80" + a, nil, 0}, {a + "\x00" + a, []string{"a"}, 6},
		{frame.Wrap(a + a), []string{a + a}, 17},
	} {
		if got, n := frame.All(c.s); !slices.Equal(got, c.want) || n != c.n {
			t.Errorf("P5.2: All of %.30q, %d bytes: %.30q, %d", c.s, len(c.s), got, n)
		}
	}
}

// P5.2: good frames and each sort of error, in all orders.
func TestAllMixed(t *testing.T) {
	parts := []string{
		frame.Wrap(""), frame.Wrap("a"), frame.Wrap(strings.Repeat("t", 64)), frame.Wrap(frame.Wrap("in")),
		"", "\x1f", "sum,", "sum,\x80", framed("\x80"), framed("\x40\x00"), framed(pack.Num(api.MaxDisk + 1)), framed("\x3ft"), "sum,\x00", "sum,\x01t",
	}
	for _, a := range parts {
		for _, b := range parts {
			for _, c := range parts {
				for _, d := range parts {
					s := a + b + c + d
					got, n := frame.All(s)
					want, wn := allOpened(s)
					if !slices.Equal(got, want) || n != wn {
						t.Fatalf("P5.2: All(%q): %q, %d; not %q, %d", s, got, n, want, wn)
					}
					if n != len(s) && len(s) < api.MaxDisk { // what is behind it is what Open refuses
						if _, _, err := frame.Open(s[n:]); err == nil {
							t.Fatalf("P5.2: All(%q) left a frame at %d", s, n)
						}
					}
				}
			}
		}
	}
}

// P5.2: as many as a disk may hold, and more.
func TestAllMany(t *testing.T) {
	for _, many := range []int{1000, api.MaxDisk / 5, 300000} {
		got, n := frame.All(strings.Repeat(frame.Wrap(""), many) + "\x1f")
		if len(got) != many || n != 5*many || strings.Join(got, "") != "" {
			t.Errorf("P5.2: All of %d frames: %d, %d bytes", many, len(got), n)
		}
	}
}

// P5.2: no two answers of All share memory, their spare room included.
func TestMemory(t *testing.T) {
	s := frame.Wrap("a") + frame.Wrap("b") + frame.Wrap("c") + frame.Wrap("d") + frame.Wrap("e")
	first, _ := frame.All(s)
	second, _ := frame.All(s)
	first = first[:cap(first)]
	for i := range first {
		first[i] = "spoilt"
	}
	want := []string{"a", "b", "c", "d", "e"}
	third, n := frame.All(s)
	if !slices.Equal(second, want) || !slices.Equal(third, want) || n != 30 {
		t.Errorf("P5.2: spoilt: %q, %q, %d", second, third, n)
	}
}

// P5.2: an error says what it wraps, and its text ends with it; pack's own errors are within it.
func TestErrors(t *testing.T) {
	for s, code := range map[string]api.Errno{"": api.ErrShort, "sum,\x80": api.ErrForm, framed(pack.Num(api.MaxDisk + 1)): api.ErrLarge, "sum,\x01": api.ErrShort, "sum,\x00": api.ErrSpoilt} {
		_, _, err := frame.Open(s)
		if !isCode(err, code) || errors.Unwrap(err) == nil || !strings.HasSuffix(err.Error(), errors.Unwrap(err).Error()) || !strings.HasSuffix(err.Error(), code.Error()) {
			t.Errorf("P5.2: the error of Open(%q): %v", s, err)
		}
		var below *fault.Fault
		if len(s) > 4 && code != api.ErrSpoilt && !errors.As(err, &below) {
			t.Errorf("P5.2: the error of Open(%q) isn't pack's: %v", s, err)
		}
	}
}

// P5.3: wherever it was cut.
func TestCutOff(t *testing.T) {
	for _, s := range append(texts(), longest) {
		whole := frame.Wrap(s)
		for cut := 0; cut < len(whole); cut += 1 + len(whole)/300 {
			if !isRefused(whole[:cut], api.ErrShort) {
				t.Errorf("P5.3: Open of %d bytes of %d", cut, len(whole))
			}
			if got, n := frame.All(whole[:cut]); len(got) != 0 || n != 0 {
				t.Errorf("P5.3: All of %d bytes of %d: %d texts, %d bytes", cut, len(whole), len(got), n)
			}
		}
		if !isRefused(whole[:len(whole)-1], api.ErrShort) {
			t.Errorf("P5.3: Open of all but the last byte of %d", len(whole))
		}
	}
}

// P5.3: of many that were cut off somewhere those stay that are whole, and no piece of the next one.
func TestCutAnywhere(t *testing.T) {
	var s strings.Builder
	var ends []int
	for _, text := range texts()[:20] {
		s.WriteString(frame.Wrap(text))
		ends = append(ends, s.Len())
	}
	for cut := range s.Len() + 1 {
		whole, n := 0, 0
		for whole < len(ends) && ends[whole] <= cut {
			whole, n = whole+1, ends[whole]
		}
		if got, gn := frame.All(s.String()[:cut]); !slices.Equal(got, texts()[:whole]) || gn != n {
			t.Errorf("P5.3: All of %d bytes: %d texts, %d bytes; not %d, %d", cut, len(got), gn, whole, n)
		}
	}
}

// P5.3: one whose sum was cut off at its front is none either.
func TestCutAhead(t *testing.T) {
	for _, s := range texts() {
		whole := frame.Wrap(s)
		for cut := 1; cut <= 4; cut++ {
			if _, rest, err := frame.Open(whole[cut:]); err == nil || rest != whole[cut:] {
				t.Errorf("P5.3: Open of Wrap of %.20q from byte %d on: %v", s, cut, err)
			}
		}
	}
}
