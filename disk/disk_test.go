package disk_test

import (
	"errors"
	"fmt"
	"math"
	"slices"
	"strings"
	"testing"

	"estuary/api"
	"estuary/disk"
	"estuary/fault"
)

const most = 200000 // what the document calls MaxDisk

// file: the document's words once more: what stays whatever happens, and what is loose behind it.
type file struct{ safe, loose string }

// whole: all that is there.
func (f file) whole() string { return f.safe + f.loose }

// step: one call, with its bytes or its number.
type step struct {
	call string
	b    string
	n    int
}

// String: for what a test tells, as the bytes may be many.
func (s step) String() string { return fmt.Sprintf("%s(%.9q of %d; %d)", s.call, s.b, len(s.b), s.n) }

// does: what is there behind it, and which error.
func (s step) does(f file) (file, api.Errno) {
	switch {
	case s.call == "Sync":
		return file{f.whole(), ""}, api.OK
	case s.call == "Crash" && s.n <= 0:
		return file{f.safe, ""}, api.OK
	case s.call == "Crash" && s.n >= len(f.loose):
		return file{f.whole(), ""}, api.OK
	case s.call == "Crash":
		return file{f.safe + f.loose[:s.n], ""}, api.OK
	case s.call == "Append" && len(f.whole()+s.b) <= most:
		return file{f.safe, f.loose + s.b}, api.OK
	case s.call == "Replace" && len(s.b) <= most:
		return file{s.b, ""}, api.OK
	}
	return f, api.ErrFull
}

// on: the same of a disk.
func (s step) on(d *disk.Disk) error {
	switch s.call {
	case "Append":
		return d.Append(s.b)
	case "Replace":
		return d.Replace(s.b)
	case "Crash":
		d.Crash(s.n)
	default:
		d.Sync()
	}
	return nil
}

// isCode: whether err is what the document means by an error with this Code, and with no other one.
func isCode(err error, code api.Errno) bool {
	if code == api.OK {
		return err == nil
	}
	var got api.Errno
	if err == nil || fault.Code(err) != code || !errors.As(err, &got) || got != code || err.Error() == "" {
		return false
	}
	for c := api.OK; c <= api.ErrLine; c++ {
		if errors.Is(err, c) != (c == code) {
			return false
		}
	}
	return true
}

// holds: whether these bytes and no others are there, and that many are loose.
func holds(t *testing.T, d *disk.Disk, promise string, want file) {
	t.Helper()
	if got := d.Bytes(); got != want.whole() || d.Loose() != len(want.loose) {
		t.Fatalf("%s: %d bytes, %.20q, %d are loose; not %d bytes, %.20q, %d", promise, len(got), got, d.Loose(), len(want.whole()), want.whole(), len(want.loose))
	}
}

// of: a disk with these bytes.
func of(t *testing.T, f file) *disk.Disk {
	t.Helper()
	d := disk.New()
	if err := d.Append(f.safe); err != nil {
		t.Fatalf("P9.1: Append of %d: %v", len(f.safe), err)
	}
	d.Sync()
	if err := d.Append(f.loose); err != nil {
		t.Fatalf("P9.1: Append of %d behind %d: %v", len(f.loose), len(f.safe), err)
	}
	holds(t, d, "P9.1", f)
	return d
}

// check: one step on a disk with these bytes, and whether it does what the words do; what is there behind it.
func check(t *testing.T, d *disk.Disk, promise string, there file, s step) file {
	t.Helper()
	left, code := s.does(there)
	if err := s.on(d); !isCode(err, code) {
		t.Fatalf("%s: %v of %d: %v, not %d", promise, s, len(there.whole()), err, code)
	}
	holds(t, d, promise, left)
	return left
}

// bytes: that many, which tell at which place they stand and, by their first one, whose they are.
func bytes(whose byte, n int) string {
	b := make([]byte, n)
	for i := range b {
		b[i] = whose + byte(i%251)
	}
	return string(b)
}

// every: all 256 bytes.
func every() string {
	var b []byte
	for i := range 256 {
		b = append(b, byte(i))
	}
	return string(b)
}

// files: with none, few, and such that are full or nearly so; of each some with nothing, a part, all loose.
func files() []file {
	all := []file{{}, {"ab", ""}, {"", "ab"}, {"ab", "cde"}, {"\x00", "\xff\x00"}, {"", every()}}
	for _, n := range []int{most - 2, most - 1, most} {
		for _, loose := range []int{0, 1, n / 2, n} {
			all = append(all, file{bytes('s', n-loose), bytes('l', loose)})
		}
	}
	return all
}

// P9.1: no bytes, and nothing that comes from another one.
func TestNew(t *testing.T) {
	holds(t, disk.New(), "P9.1", file{})
	a, b := of(t, file{"ab", "cd"}), of(t, file{"ab", "cd"})
	if err := a.Append("e"); err != nil {
		t.Fatalf("P9.1: Append: %v", err)
	}
	b.Crash(1)
	if err := b.Append("xyz"); err != nil {
		t.Fatalf("P9.1: Append: %v", err)
	}
	holds(t, a, "P9.1", file{"ab", "cde"})
	holds(t, b, "P9.1", file{"abc", "xyz"})
	holds(t, disk.New(), "P9.1", file{})
}

// P9.1: the document's example.
func TestExample(t *testing.T) {
	d := disk.New()
	if err := d.Append("ab"); err != nil {
		t.Fatalf("P9.1: Append: %v", err)
	}
	holds(t, d, "P9.1", file{"", "ab"})
	d.Crash(1)
	holds(t, d, "P9.1", file{"a", ""})
}

// P9.1: behind all, loose, whatever the bytes are.
func TestAppend(t *testing.T) {
	d, there := disk.New(), ""
	for _, b := range []string{"ab", "", "c", "\x00", "\xff\xfe", "é", every(), strings.Repeat("r", 5000), "d"} {
		if err := d.Append(b); err != nil {
			t.Fatalf("P9.1: Append(%.9q): %v", b, err)
		}
		there += b
		holds(t, d, "P9.1", file{"", there})
	}
	d.Sync()
	there = check(t, d, "P9.1", file{there, ""}, step{call: "Append", b: "behind"}).whole()
	check(t, d, "P9.1", file{there[:len(there)-6], "behind"}, step{call: "Append", b: "it"})
}

// P9.1: the last byte for which there is room, however many come at once; one more changes nothing.
func TestAppendFull(t *testing.T) {
	for _, at := range []int{1, 7, 64, 4096, most - 1, most} {
		d, all := disk.New(), bytes('a', most)
		for from := 0; from < most; from += at {
			if err := d.Append(all[from:min(from+at, most)]); err != nil {
				t.Fatalf("P9.1: Append of %d behind %d: %v", at, from, err)
			}
		}
		holds(t, d, "P9.1", file{"", all})
		for _, b := range []string{"x", "xy", all} {
			check(t, d, "P9.1", file{"", all}, step{call: "Append", b: b})
		}
		check(t, d, "P9.1", file{"", all}, step{call: "Append", b: ""})
	}
}

// P9.1: how many bytes there would be counts, not how many are loose, nor how many there were ahead of a crash.
func TestAppendRoom(t *testing.T) {
	for _, there := range files() {
		room := most - len(there.whole())
		for _, n := range []int{0, 1, room - 1, room, room + 1, room + 2, most, most + 1, 1 << 24} {
			if n >= 0 {
				check(t, of(t, there), "P9.1", there, step{call: "Append", b: bytes('n', n)})
			}
		}
		d := of(t, there)
		left := check(t, d, "P9.1", there, step{call: "Crash"})
		left = check(t, d, "P9.1", left, step{call: "Append", b: bytes('n', most-len(left.whole()))})
		check(t, d, "P9.1", left, step{call: "Append", b: "x"})
	}
}

// P9.1: all that is there, once and again.
func TestSync(t *testing.T) {
	for _, there := range files() {
		d := of(t, there)
		left := check(t, d, "P9.1", there, step{call: "Sync"})
		left = check(t, d, "P9.1", left, step{call: "Sync"})
		check(t, d, "P9.1", left, step{call: "Crash"})
	}
}

// P9.1: all there is, safe at once, whatever was there; too much of it changes nothing, and what was loose is so still.
func TestReplace(t *testing.T) {
	for _, there := range files() {
		for _, n := range []int{0, 1, 5, most - 1, most, most + 1, most + 2, 2 * most, 1 << 24} {
			d := of(t, there)
			left := check(t, d, "P9.1", there, step{call: "Replace", b: bytes('r', n)})
			if n <= most {
				left = check(t, d, "P9.1", left, step{call: "Crash"})
			}
			left = check(t, d, "P9.1", left, step{call: "Append", b: "x"})
			check(t, d, "P9.1", left, step{call: "Crash", n: len(left.loose) - 1})
		}
	}
}

// P9.1: of its own bytes, or a part of them.
func TestReplaceByItsOwn(t *testing.T) {
	d := of(t, file{"ab", "cde"})
	left := check(t, d, "P9.1", file{"ab", "cde"}, step{call: "Replace", b: d.Bytes()})
	left = check(t, d, "P9.1", left, step{call: "Replace", b: d.Bytes()[1:3]})
	check(t, d, "P9.1", left, step{call: "Append", b: d.Bytes()})
}

// P9.1: an error says which call it is that refused.
func TestErrorsSayWhere(t *testing.T) {
	d, large := disk.New(), bytes('x', most+1)
	for where, err := range map[string]error{"disk.Append": d.Append(large), "disk.Replace": d.Replace(large)} {
		if !isCode(err, api.ErrFull) || !slices.Equal(fault.Where(err), []string{where}) || err.Error() != where+": error 19" {
			t.Errorf("P9.1: %s: %v", where, err)
		}
	}
}

// P9.1: of what is loose alone, as many as stay; held from none to all of it.
func TestCrash(t *testing.T) {
	for _, there := range files() {
		all, loose := len(there.whole()), len(there.loose)
		for _, n := range []int{0, 1, 2, loose / 2, loose - 1, loose, loose + 1, all, all + 1, most, most + 1, -1, -loose, math.MinInt, math.MinInt + 1, math.MaxInt, math.MaxInt - 1, 1 << 32, -1 << 32} {
			d := of(t, there)
			left := check(t, d, "P9.1", there, step{call: "Crash", n: n})
			left = check(t, d, "P9.1", left, step{call: "Crash", n: -n}) // nothing is loose, so nothing goes
			check(t, d, "P9.1", left, step{call: "Append", b: "x"})
		}
	}
	there := file{"ab", every()}
	for n := -2; n <= len(there.loose)+2; n++ {
		check(t, of(t, there), "P9.1", there, step{call: "Crash", n: n})
	}
}

// P9.1: what was told once isn't touched by what comes later.
func TestToldBefore(t *testing.T) {
	d := disk.New()
	var told, want []string
	for _, s := range []step{{"Append", "abcdef", 0}, {"Crash", "", 2}, {"Append", "xyz", 0}, {"Sync", "", 0}, {"Replace", "rst", 0}, {"Append", "u", 0}, {"Crash", "", 0}, {"Append", "v", 0}, {"Replace", "", 0}, {"Append", "w", 0}} {
		if err := s.on(d); err != nil {
			t.Fatalf("P9.1: %v: %v", s, err)
		}
		told, want = append(told, d.Bytes()), append(want, strings.Clone(d.Bytes()))
	}
	if !slices.Equal(told, want) || !slices.Equal(told, []string{"abcdef", "ab", "abxyz", "abxyz", "rst", "rstu", "rst", "rstv", "", "w"}) {
		t.Errorf("P9.1: told: %q", told)
	}
}

// steps: all calls, with the bytes and numbers that matter where there is that much room.
func steps(room int) []step {
	all := []step{{call: "Sync"}, {"Append", "", 0}, {"Append", "pq", 0}, {"Replace", "", 0}, {"Replace", "uvw", 0}, {"Replace", bytes('R', most+1), 0}}
	for _, n := range []int{-1, 0, 1, 2, most} {
		all = append(all, step{call: "Crash", n: n})
	}
	for _, n := range []int{1, room, room + 1} {
		all = append(all, step{"Append", bytes('A', n), 0})
	}
	return all
}

// P9.1: all orders of a few steps.
func TestAllOrders(t *testing.T) {
	for _, there := range files() {
		all := steps(most - len(there.whole()))
		for _, a := range all {
			for _, b := range all {
				d := of(t, there)
				left := check(t, d, "P9.1", there, a)
				check(t, d, "P9.1", left, b)
			}
		}
	}
	all := []step{{call: "Sync"}, {"Append", "p", 0}, {"Append", "qrs", 0}, {"Replace", "tu", 0}, {"Replace", "", 0}, {call: "Crash", n: -1}, {call: "Crash", n: 1}, {call: "Crash", n: 9}}
	for n := range len(all) * len(all) * len(all) * len(all) * len(all) {
		d, there := disk.New(), file{}
		for i := 0; i < 5; i, n = i+1, n/len(all) {
			there = check(t, d, "P9.1", there, all[n%len(all)])
		}
	}
}

// draw: numbers by a rule, so that each run of the tests has the same.
func draw(first uint32) func(below int) int {
	rule := first
	return func(below int) int {
		rule = rule*1664525 + 1013904223
		return int(rule>>8) % below
	}
}

// P9.2: what was there at a Sync is there behind whatever comes, unless it is replaced; and of what wasn't nothing but its front.
func TestWhatIsSyncedStays(t *testing.T) {
	for first := range uint32(40) {
		next := draw(first)
		d, safe, all := disk.New(), "", ""
		for range 200 {
			switch next(8) {
			case 0:
				d.Sync()
				safe = all
			case 1:
				d.Crash(next(40) - 5)
				safe, all = d.Bytes(), crashed(t, d, safe, all)
			case 2:
				if d.Replace(bytes('R', most+1+next(3))) == nil {
					t.Fatal("P9.2: replaced by too much")
				}
			default:
				b := bytes(byte(next(256)), next(9))
				if err := d.Append(b); err != nil {
					t.Fatalf("P9.2: Append: %v", err)
				}
				all += b
			}
			holds(t, d, "P9.2", file{safe, all[len(safe):]})
		}
	}
}

// crashed: what is left of all, where safe was synced.
func crashed(t *testing.T, d *disk.Disk, safe, all string) string {
	t.Helper()
	left := d.Bytes()
	if !strings.HasPrefix(left, safe) || !strings.HasPrefix(all, left) {
		t.Fatalf("P9.2: %q is left of %q, of which %q was synced", left, all, safe)
	}
	return left
}

// P9.2: of each file, however much of it is safe, and however it came to be so.
func TestSafeFromCrashes(t *testing.T) {
	for _, there := range files() {
		for _, n := range []int{math.MinInt, -1, 0, 1, math.MaxInt} {
			d := of(t, there)
			d.Crash(n)
			if !strings.HasPrefix(d.Bytes(), there.safe) {
				t.Errorf("P9.2: Crash(%d): %d of %d synced bytes", n, len(d.Bytes()), len(there.safe))
			}
			d = of(t, there)
			d.Sync()
			d.Crash(n)
			holds(t, d, "P9.2", file{there.whole(), ""})
			d = of(t, file{"ab", "cd"})
			if err := d.Replace(there.whole()); err != nil {
				t.Fatalf("P9.2: Replace: %v", err)
			}
			d.Crash(n)
			holds(t, d, "P9.2", file{there.whole(), ""})
		}
	}
}

// P9.2: long runs of calls of all sorts, on disks that fill up, too.
func TestLongRuns(t *testing.T) {
	calls := []string{"Replace", "Sync", "Crash", "Append", "Append", "Append", "Append"}
	for i, size := range []int{4, 300, 9000, 90000} {
		next := draw(uint32(i))
		d, there := disk.New(), file{}
		for range 1500 {
			s := step{call: calls[next(len(calls))], n: next(2*size) - size/2}
			if s.call == "Replace" && next(3) > 0 { // seldom, as the disk is to fill up
				s.b = bytes('R', most+1)
			} else if s.call != "Sync" && s.call != "Crash" {
				s.b = bytes(byte(next(256)), next(size))
			}
			there = check(t, d, "P9.2", there, s)
		}
	}
}
