package pack_test

import (
	"errors"
	"math"
	"math/big"
	"regexp"
	"strings"
	"testing"

	"estuary/api"
	"estuary/fault"
	"estuary/pack"
)

const bound = 1 << 48 // the first number that isn't taken

// numbers: small ones, and those beside each power of two, and some that lie between.
func numbers() []int {
	var all []int
	for n := range 5000 {
		all = append(all, n)
	}
	for i := range 63 {
		all = append(all, 1<<i-1, 1<<i, 1<<i+1, (1<<i)/3, (1<<i)/7*5)
	}
	return append(all, api.MaxRev, api.MaxRev+1, math.MaxInt)
}

// texts: of all lengths that matter to their Num, and of odd bytes.
func texts() []string {
	all := []string{"\x00", "\x40", "\xff\xfe", "é", "a\x00b", pack.Text("in a text"), pack.Num(bound)}
	for _, n := range []int{0, 1, 2, 12, 62, 63, 64, 65, 255, 256, 4095, 4096, api.MaxDisk} {
		all = append(all, strings.Repeat("t", n), strings.Repeat("\x00", n), strings.Repeat("\x7f", n))
	}
	return all
}

// strung: all texts of 0 to n of these bytes.
func strung(bytes string, n int) []string {
	all, last := []string{""}, []string{""}
	for range n {
		var next []string
		for _, s := range last {
			for i := range len(bytes) {
				next = append(next, s+bytes[i:i+1])
			}
		}
		all, last = append(all, next...), next
	}
	return all
}

// every: all 256 bytes.
func every() string {
	var b []byte
	for i := range 256 {
		b = append(b, byte(i))
	}
	return string(b)
}

var (
	good  = regexp.MustCompile(`\A(?:[\x00-\x3f]|[\x40-\x7f]{1,7}[\x01-\x3f])`)
	short = regexp.MustCompile(`\A[\x40-\x7f]{0,7}\z`)
)

// taken: the document's words of Take once more, in another way than the program's.
func taken(s string) (int, string, api.Errno) {
	num := good.FindString(s)
	switch {
	case num != "":
		return value(num), s[len(num):], api.OK
	case short.MatchString(s):
		return 0, s, api.ErrShort
	default:
		return 0, s, api.ErrForm
	}
}

// value: of a Num, the highest byte first.
func value(num string) int {
	n := new(big.Int)
	for i := len(num) - 1; i >= 0; i-- {
		n.Mul(n, big.NewInt(64)).Add(n, big.NewInt(int64(num[i]%64)))
	}
	return int(n.Int64())
}

// textTaken: likewise of TakeText.
func textTaken(s string, most int) (string, string, api.Errno) {
	n, rest, code := taken(s)
	if code == api.OK && n > most {
		code = api.ErrLarge
	}
	if code == api.OK && n > len(rest) {
		code = api.ErrShort
	}
	if code != api.OK {
		return "", s, code
	}
	return rest[:n], rest[n:], api.OK
}

// isCode: whether err is what the document means by an error with this Code.
func isCode(err error, code api.Errno) bool {
	if code == api.OK {
		return err == nil
	}
	var f *fault.Fault
	if err == nil || fault.Code(err) != code || len(fault.Where(err)) == 0 || !errors.As(err, &f) {
		return false
	}
	for c := api.OK; c <= api.ErrLine; c++ {
		if errors.Is(err, c) != (c == code) {
			return false
		}
	}
	return true
}

// P4.1
func TestNum(t *testing.T) {
	for _, c := range []struct {
		n    int
		want string
	}{
		{0, "\x00"}, {1, "\x01"}, {62, "\x3e"}, {63, "\x3f"},
		{64, "\x40\x01"}, {65, "\x41\x01"}, {127, "\x7f\x01"}, {128, "\x40\x02"}, {129, "\x41\x02"}, {255, "\x7f\x03"},
		{4095, "\x7f\x3f"}, {4096, "\x40\x40\x01"}, {4097, "\x41\x40\x01"}, {64*64*64 - 1, "\x7f\x7f\x3f"}, {1 + 2*64 + 3*64*64, "\x41\x42\x03"},
		{1 << 42, "\x40\x40\x40\x40\x40\x40\x40\x01"}, {bound - 1, "\x7f\x7f\x7f\x7f\x7f\x7f\x7f\x3f"},
		{bound, "\x40\x40\x40\x40\x40\x40\x40\x40\x01"}, {math.MaxInt, strings.Repeat("\x7f", 10) + "\x07"},
		{-1, "\x00"}, {-64, "\x00"}, {-bound, "\x00"}, {math.MinInt + 1, "\x00"}, {math.MinInt, "\x00"},
	} {
		if got := pack.Num(c.n); got != c.want {
			t.Errorf("P4.1: Num(%d): %q", c.n, got)
		}
	}
	for _, n := range numbers() {
		got := pack.Num(n)
		ahead, last := got[:len(got)-1], got[len(got)-1]
		if strings.Trim(ahead, every()[64:128]) != "" || last > 63 || value(got) != n {
			t.Errorf("P4.1: Num(%d): %q", n, got)
		}
		if len(got) > 1 && last == 0 {
			t.Errorf("P4.1: Num(%d) could be shorter: %q", n, got)
		}
		if n > 0 && pack.Num(-n) != "\x00" {
			t.Errorf("P4.1: Num(%d): %q", -n, pack.Num(-n))
		}
	}
}

// P4.1
func TestTake(t *testing.T) {
	sevens, eights := strings.Repeat("\x40", 7), strings.Repeat("\x40", 8)
	for _, c := range []struct {
		s    string
		n    int
		rest string
		code api.Errno
	}{
		{"\x00", 0, "", 0}, {"\x00\x00", 0, "\x00", 0}, {"\x01", 1, "", 0}, {"\x3f\x80", 63, "\x80", 0}, {"\x40\x01", 64, "", 0}, {"\x40\x01rest", 64, "rest", 0},
		{"\x7f\x3f\x40", 4095, "\x40", 0}, {sevens + "\x01", 1 << 42, "", 0}, {sevens + "\x3f\xff", 63 << 42, "\xff", 0},
		{"\x7f\x7f\x7f\x7f\x7f\x7f\x7f\x3f", bound - 1, "", 0},
		{"", 0, "", api.ErrShort}, {"\x40", 0, "\x40", api.ErrShort}, {"\x7f\x7f", 0, "\x7f\x7f", api.ErrShort}, {sevens, 0, sevens, api.ErrShort},
		{"\x80", 0, "\x80", api.ErrForm}, {"\xff\x01", 0, "\xff\x01", api.ErrForm}, {"\x40\x80", 0, "\x40\x80", api.ErrForm}, {"\x40\x81\x01", 0, "\x40\x81\x01", api.ErrForm},
		{"\x40\x00", 0, "\x40\x00", api.ErrForm}, {"\x41\x00\x01", 0, "\x41\x00\x01", api.ErrForm}, {"\x7f\x40\x00", 0, "\x7f\x40\x00", api.ErrForm},
		{sevens + "\x00", 0, sevens + "\x00", api.ErrForm}, {eights, 0, eights, api.ErrForm}, {eights + "\x01", 0, eights + "\x01", api.ErrForm},
		{sevens + "\x7f", 0, sevens + "\x7f", api.ErrForm}, {sevens + "\x80", 0, sevens + "\x80", api.ErrForm},
		{pack.Num(bound), 0, pack.Num(bound), api.ErrForm}, {pack.Num(math.MaxInt), 0, pack.Num(math.MaxInt), api.ErrForm},
	} {
		n, rest, err := pack.Take(c.s)
		if n != c.n || rest != c.rest || !isCode(err, c.code) {
			t.Errorf("P4.1: Take(%q): %d, %q, %v", c.s, n, rest, err)
		}
	}
	all := append(strung(every(), 2), strung("\x00\x3f\x40\x80", 9)...)
	for _, s := range append(all, strung("\x00\x01\x3f\x40\x41\x7f\x80\xff", 5)...) {
		n, rest, err := pack.Take(s)
		if wn, wrest, code := taken(s); n != wn || rest != wrest || fault.Code(err) != code || (err == nil) != (code == api.OK) {
			t.Fatalf("P4.1: Take(%q): %d, %q, %v; not %d, %q, %d", s, n, rest, err, wn, wrest, code)
		}
	}
}

// P4.1: how many bytes, not how many runes.
func TestText(t *testing.T) {
	for _, c := range []struct{ s, want string }{
		{"", "\x00"}, {"a", "\x01a"}, {"\x00", "\x01\x00"}, {"é", "\x02é"}, {"\xff\xfe", "\x02\xff\xfe"},
		{strings.Repeat("t", 63), "\x3f" + strings.Repeat("t", 63)}, {strings.Repeat("t", 64), "\x40\x01" + strings.Repeat("t", 64)},
	} {
		if got := pack.Text(c.s); got != c.want {
			t.Errorf("P4.1: Text(%q): %q", c.s, got)
		}
	}
	for _, s := range texts() {
		if got := pack.Text(s); got != pack.Num(len(s))+s {
			t.Errorf("P4.1: Text of %d bytes", len(s))
		}
	}
}

// P4.1: a row an error, and those where several apply: the first one is told.
func TestTakeText(t *testing.T) {
	most := pack.Num(bound - 1)
	for _, c := range []struct {
		s          string
		most       int
		text, rest string
		code       api.Errno
	}{
		{"\x00", 0, "", "", 0}, {"\x00rest", 0, "", "rest", 0}, {"\x01a", 1, "a", "", 0}, {"\x02ab", 2, "ab", "", 0}, {"\x02abc", 9, "ab", "c", 0}, {"\x01\x80\x80", math.MaxInt, "\x80", "\x80", 0},
		{"", 9, "", "", api.ErrShort}, {"\x40", 9, "", "\x40", api.ErrShort}, {"\x40", math.MinInt, "", "\x40", api.ErrShort}, {"", -1, "", "", api.ErrShort},
		{"\x80a", 9, "", "\x80a", api.ErrForm}, {"\x80a", -1, "", "\x80a", api.ErrForm}, {"\x41\x00a", 9, "", "\x41\x00a", api.ErrForm}, {pack.Num(bound), 0, "", pack.Num(bound), api.ErrForm},
		{"\x02ab", 1, "", "\x02ab", api.ErrLarge}, {"\x02a", 1, "", "\x02a", api.ErrLarge}, {"\x02", 1, "", "\x02", api.ErrLarge}, {most, bound - 2, "", most, api.ErrLarge},
		{"\x01a", 0, "", "\x01a", api.ErrLarge}, {"\x00", -1, "", "\x00", api.ErrLarge}, {"\x00a", math.MinInt, "", "\x00a", api.ErrLarge},
		{"\x02a", 2, "", "\x02a", api.ErrShort}, {"\x01", 1, "", "\x01", api.ErrShort}, {"\x3fab", 63, "", "\x3fab", api.ErrShort}, {most, bound - 1, "", most, api.ErrShort}, {most + "a", math.MaxInt, "", most + "a", api.ErrShort},
	} {
		text, rest, err := pack.TakeText(c.s, c.most)
		if text != c.text || rest != c.rest || !isCode(err, c.code) {
			t.Errorf("P4.1: TakeText(%q, %d): %q, %q, %v", c.s, c.most, text, rest, err)
		}
	}
	all := append(strung(every(), 2), strung("\x00\x01\x02\x03\x40\x80", 6)...)
	for _, s := range append(all, texts()...) {
		n, _, _ := taken(s)
		for _, most := range []int{math.MinInt, -1, 0, 1, 2, n - 1, n, n + 1, len(s), math.MaxInt} {
			text, rest, err := pack.TakeText(s, most)
			if wtext, wrest, code := textTaken(s, most); text != wtext || rest != wrest || fault.Code(err) != code || (err == nil) != (code == api.OK) {
				t.Fatalf("P4.1: TakeText(%q, %d): %q, %q, %v; not %q, %q, %d", s, most, text, rest, err, wtext, wrest, code)
			}
		}
	}
}

// P4.1
func TestFlag(t *testing.T) {
	if pack.Flag(false) != "\x00" || pack.Flag(true) != "\x01" {
		t.Errorf("P4.1: Flag: %q, %q", pack.Flag(false), pack.Flag(true))
	}
	if flag, rest, err := pack.TakeFlag(""); flag || rest != "" || !isCode(err, api.ErrShort) {
		t.Errorf("P4.1: TakeFlag of nothing: %v, %q, %v", flag, rest, err)
	}
	for i := range 256 {
		for _, tail := range []string{"", "\x00", "\x01", "\x80", "tail"} {
			s := every()[i:i+1] + tail
			flag, rest, err := pack.TakeFlag(s)
			if i > 1 && (flag || rest != s || !isCode(err, api.ErrForm)) || i <= 1 && (flag != (i == 1) || rest != tail || err != nil) {
				t.Errorf("P4.1: TakeFlag(%q): %v, %q, %v", s, flag, rest, err)
			}
		}
	}
}

// P4.1: where it was is said, too: the outermost call first.
func TestErrors(t *testing.T) {
	_, _, err := pack.TakeText("\x80", 9)
	_, _, inner := pack.Take("\x80")
	if got, below := fault.Where(err), fault.Where(inner); len(got) != len(below)+1 || err.Error() != got[0]+": "+inner.Error() {
		t.Errorf("P4.1: %q, %q", err, inner)
	}
}

// P4.2: whatever is behind it.
func TestNumIsTaken(t *testing.T) {
	for _, n := range numbers() {
		for _, tail := range []string{"", "\x00", "\x01", "\x40", "\x80", "tail"} {
			s := pack.Num(n) + tail
			got, rest, err := pack.Take(s)
			if n < bound && (got != n || rest != tail || err != nil) {
				t.Errorf("P4.2: Take of Num(%d) and %q: %d, %q, %v", n, tail, got, rest, err)
			}
			if n >= bound && (got != 0 || rest != s || !isCode(err, api.ErrForm)) {
				t.Errorf("P4.2: Take of Num(%d) and %q: %d, %q, %v", n, tail, got, rest, err)
			}
		}
	}
}

// P4.2: and of what is cut off nothing is.
func TestTextIsTaken(t *testing.T) {
	for _, s := range texts() {
		whole := pack.Text(s)
		for _, tail := range []string{"", "\x00", "\x40", "\x80", "tail"} {
			for _, most := range []int{len(s), len(s) + 1, math.MaxInt} {
				if got, rest, err := pack.TakeText(whole+tail, most); got != s || rest != tail || err != nil {
					t.Errorf("P4.2: TakeText of a Text of %d bytes and %q: %d bytes, %q, %v", len(s), tail, len(got), rest, err)
				}
			}
			if got, rest, err := pack.TakeText(whole+tail, len(s)-1); got != "" || rest != whole+tail || !isCode(err, api.ErrLarge) {
				t.Errorf("P4.2: TakeText of a Text of %d bytes, one too many: %d bytes, %v", len(s), len(got), err)
			}
		}
		for cut := 0; cut < len(whole); cut += 1 + len(whole)/300 {
			if got, rest, err := pack.TakeText(whole[:cut], len(s)); got != "" || rest != whole[:cut] || !isCode(err, api.ErrShort) {
				t.Errorf("P4.2: TakeText of %d bytes of %d: %d bytes, %v", cut, len(whole), len(got), err)
			}
		}
	}
}

// P4.2: one behind the other, all come back in order, and nothing is left.
func TestAllIsTaken(t *testing.T) {
	var all strings.Builder
	for i, s := range texts() {
		all.WriteString(pack.Flag(i%3 == 0) + pack.Num(i*i*i) + pack.Text(s) + pack.Num(bound-1-i) + pack.Flag(i%2 == 0) + pack.Text(pack.Text(s)))
	}
	left := all.String()
	for i, s := range texts() {
		third, left1, err1 := pack.TakeFlag(left)
		cube, left2, err2 := pack.Take(left1)
		text, left3, err3 := pack.TakeText(left2, api.MaxDisk)
		great, left4, err4 := pack.Take(left3)
		second, left5, err5 := pack.TakeFlag(left4)
		outer, left6, err6 := pack.TakeText(left5, math.MaxInt)
		inner, none, err7 := pack.TakeText(outer, api.MaxDisk)
		if err := errors.Join(err1, err2, err3, err4, err5, err6, err7); err != nil {
			t.Fatalf("P4.2: round %d: %v", i, err)
		}
		if third != (i%3 == 0) || cube != i*i*i || text != s || great != bound-1-i || second != (i%2 == 0) || inner != s || none != "" {
			t.Errorf("P4.2: round %d: %v, %d, %d bytes, %d, %v, %d bytes", i, third, cube, len(text), great, second, len(inner))
		}
		left = left6
	}
	if left != "" {
		t.Errorf("P4.2: %d bytes are left", len(left))
	}
}
