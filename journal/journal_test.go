package journal_test

import (
	"errors"
	"math"
	"math/rand/v2"
	"slices"
	"strings"
	"testing"

	"estuary/api"
	"estuary/disk"
	"estuary/fault"
	"estuary/frame"
	"estuary/journal"
)

const most = 200000 // what the document calls MaxDisk

// book: the document's words once more: the records, and how many of their last bytes are loose.
type book struct {
	records []string
	loose   int
}

// wraps: the records as they stand on a disk.
func wraps(records []string) string {
	var b strings.Builder
	for _, r := range records {
		b.WriteString(frame.Wrap(r))
	}
	return b.String()
}

// added: with r behind them, loose, if there is room.
func (b book) added(r string) (book, bool) {
	if len(wraps(b.records)+frame.Wrap(r)) > most {
		return b, false
	}
	return book{append(slices.Clone(b.records), r), b.loose + len(frame.Wrap(r))}, true
}

// crashed: of what is loose the first n bytes stay, and a record goes if a byte of it does.
func (b book) crashed(n int) book {
	left := len(wraps(b.records)) - b.loose + min(max(n, 0), b.loose)
	whole := 0
	for whole < len(b.records) && len(wraps(b.records[:whole+1])) <= left {
		whole++
	}
	return book{b.records[:whole], 0}
}

// isFull: whether err is what the document means by ErrFull, and by no other one.
func isFull(err error) bool {
	for c := api.OK; c <= api.ErrLine; c++ {
		if errors.Is(err, c) != (c == api.ErrFull) {
			return false
		}
	}
	return fault.Is(err, api.ErrFull) && strings.HasSuffix(err.Error(), "error 19")
}

// holds: whether on d there are these records and not a byte more, that much of them loose, and j counts them.
func holds(t *testing.T, d *disk.Disk, j *journal.Journal, promise string, want book) {
	t.Helper()
	if got := d.Bytes(); got != wraps(want.records) || d.Loose() != want.loose {
		t.Fatalf("%s: %d bytes, %.30q, %d are loose; not %d bytes, %d", promise, len(got), got, d.Loose(), len(wraps(want.records)), want.loose)
	}
	if n := j.Len(); n != len(want.records) {
		t.Fatalf("%s: Len: %d, not %d", promise, n, len(want.records))
	}
}

// open: a journal on d, which tells these records and no error.
func open(t *testing.T, d *disk.Disk, promise string, want book) *journal.Journal {
	t.Helper()
	j, records, err := journal.Open(d)
	if err != nil || j == nil || !slices.Equal(records, want.records) {
		t.Fatalf("%s: Open: %d records, %.50q, %v; not %d, %.50q", promise, len(records), records, err, len(want.records), want.records)
	}
	holds(t, d, j, promise, want)
	return j
}

// fill: a disk with these bytes, the last of them loose.
func fill(t *testing.T, safe, loose string) *disk.Disk {
	t.Helper()
	d := disk.New()
	if err := d.Replace(safe); err != nil {
		t.Fatalf("Replace: %v", err)
	}
	if err := d.Append(loose); err != nil {
		t.Fatalf("Append: %v", err)
	}
	return d
}

// some: a journal with these synced, and those added behind them.
func some(t *testing.T, synced, loose []string) (*disk.Disk, *journal.Journal, book) {
	t.Helper()
	d := fill(t, wraps(synced), wraps(loose))
	want := book{slices.Concat(synced, loose), len(wraps(loose))}
	return d, open(t, d, "P10.1", want), want
}

// texts: of all lengths that matter to a frame's, and of odd bytes.
func texts() []string {
	all := []string{"", "a", "reed", "\x00", "\xff\xfe", "é", "a\x00b", frame.Wrap("framed"), frame.Wrap("cut off")[:9], "sum,\x00"}
	for _, n := range []int{2, 5, 63, 64, 65, 4095, 4096} {
		all = append(all, strings.Repeat("t", n), strings.Repeat("\x00", n))
	}
	return all
}

// torn: bytes at which no frame begins, also where some stand behind them.
func torn() []string {
	spoilt := []byte(frame.Wrap("reed"))
	spoilt[6] ^= 1
	all := []string{"\x00", "\x1f\x5d\x0c", "sum,", "sum,\x00", "sum,\x80", "sum,\x04reed", "sum,\x40\x00", string(spoilt), string(spoilt) + frame.Wrap("whole"), frame.Wrap("a")[1:] + frame.Wrap("b"), strings.Repeat("\xff", 300)}
	for i := 1; i < len(frame.Wrap("shore")); i++ {
		all = append(all, frame.Wrap("shore")[:i])
	}
	return all
}

// P10.1: of a new disk: no records, and nothing is written.
func TestOpenNew(t *testing.T) {
	d := disk.New()
	open(t, d, "P10.1", book{})
	open(t, d, "P10.1", book{})
}

// P10.1: what is whole to the end is told as it is: what was loose is so still.
func TestOpenWhole(t *testing.T) {
	all := texts()
	for _, synced := range [][]string{nil, {""}, {"a"}, {"", "", ""}, all[:4], all} {
		for _, loose := range [][]string{nil, {""}, {"b"}, {"b", "", "b"}, all[3:]} {
			d, _, want := some(t, synced, loose)
			open(t, d, "P10.1", want)
			d.Crash(0)
			open(t, d, "P10.1", book{synced, 0})
		}
	}
}

// P10.1: what is behind the records is cut off, and by disk's Replace: nothing is loose any more.
func TestOpenTorn(t *testing.T) {
	all := texts()
	for _, tail := range torn() {
		for _, records := range [][]string{nil, {""}, {"reed"}, {"", "a", ""}, all} {
			whole := wraps(records)
			for _, safe := range []int{0, len(whole) / 2, len(whole), len(whole) + len(tail)/2, len(whole) + len(tail)} {
				d := fill(t, (whole + tail)[:safe], (whole + tail)[safe:])
				j := open(t, d, "P10.1", book{records, 0})
				d.Crash(0)
				holds(t, d, j, "P10.1", book{records, 0})
				if err := j.Add("behind"); err != nil {
					t.Fatalf("P10.1: Add: %v", err)
				}
				open(t, d, "P10.1", book{append(slices.Clone(records), "behind"), len(frame.Wrap("behind"))})
			}
		}
	}
}

// P10.1: disks that are full: of records, of none, of what is no record.
func TestOpenFull(t *testing.T) {
	long := strings.Repeat("l", most-4-3)
	for _, c := range []struct {
		bytes   string
		records []string
	}{
		{frame.Wrap(long), []string{long}},
		{strings.Repeat(frame.Wrap(""), most/5), make([]string, most/5)},
		{strings.Repeat("\xff", most), nil},
		{frame.Wrap("a") + strings.Repeat("\x00", most-6), []string{"a"}},
		{frame.Wrap(long + "l")[:most], nil},
		{frame.Wrap("a") + frame.Wrap(long)[:most-6], []string{"a"}},
	} {
		if len(c.bytes) != most {
			t.Fatalf("%d bytes", len(c.bytes))
		}
		d := fill(t, "", c.bytes)
		want := book{c.records, most}
		if wraps(c.records) != c.bytes {
			want.loose = 0
		}
		open(t, d, "P10.1", want)
	}
}

// P10.1: behind all, loose, whatever the bytes are.
func TestAdd(t *testing.T) {
	d := disk.New()
	j, want := open(t, d, "P10.1", book{}), book{}
	for _, r := range append(texts(), texts()...) {
		if err := j.Add(r); err != nil {
			t.Fatalf("P10.1: Add(%.20q): %v", r, err)
		}
		want, _ = want.added(r)
		holds(t, d, j, "P10.1", want)
	}
	open(t, d, "P10.1", want)
	if want.records = []string{"\xff", "a"}; d.Replace(frame.Wrap("\xff")) != nil || j.Add("a") != nil {
		t.Fatal("P10.1: Add")
	}
	want.loose = len(frame.Wrap("a"))
	holds(t, d, j, "P10.1", want)
}

// tryAdd: Add, which must be refused just where there is no room; what is there behind it.
func tryAdd(t *testing.T, j *journal.Journal, promise string, there book, r string) book {
	t.Helper()
	left, fits := there.added(r)
	if err := j.Add(r); fits != (err == nil) || !fits && !isFull(err) {
		t.Fatalf("%s: Add of %d bytes behind %d: %v", promise, len(r), len(wraps(there.records)), err)
	}
	return left
}

// tryTrim: likewise Trim.
func tryTrim(t *testing.T, j *journal.Journal, promise string, there book, records []string) book {
	t.Helper()
	fits := len(wraps(records)) <= most
	if err := j.Trim(records); fits != (err == nil) || !fits && !isFull(err) {
		t.Fatalf("%s: Trim to %d records, %d bytes: %v", promise, len(records), len(wraps(records)), err)
	}
	if fits {
		return book{records, 0}
	}
	return there
}

// P10.1: the last byte for which there is room; one more is ErrFull and changes nothing, and a shorter record still goes.
func TestAddFull(t *testing.T) {
	for _, n := range []int{0, 60, 5000, most - 5000, most - 110, most - 20, most - 13, most - 12, most - 11, most - 8, most - 7} {
		synced := []string{strings.Repeat("s", n)}
		room := most - len(wraps(synced))
		for n := max(0, room-12); n <= room+3; n++ {
			d, j, want := some(t, synced, nil)
			want = tryAdd(t, j, "P10.1", want, strings.Repeat("r", n))
			holds(t, d, j, "P10.1", want)
			want = tryAdd(t, j, "P10.1", want, "")
			open(t, d, "P10.1", want)
		}
	}
}

// P10.1: records that are too large for any disk, and as many as there may be.
func TestAddMost(t *testing.T) {
	d, j, want := some(t, []string{"s"}, []string{"l"})
	for _, n := range []int{most - 6, most - 1, most, most + 1, 1 << 24} {
		if err := j.Add(strings.Repeat("r", n)); !isFull(err) {
			t.Errorf("P10.1: Add of %d bytes: %v", n, err)
		}
		holds(t, d, j, "P10.1", want)
	}
	d = disk.New()
	j = open(t, d, "P10.1", book{})
	for n := range most / 5 {
		if err := j.Add(""); err != nil {
			t.Fatalf("P10.1: Add of nothing behind %d records: %v", n, err)
		}
	}
	if err := j.Add(""); !isFull(err) {
		t.Errorf("P10.1: Add of nothing to a full disk: %v", err)
	}
	open(t, d, "P10.1", book{make([]string, most/5), most})
}

// P10.1: all that is there, once and again; what is added behind it is loose.
func TestSync(t *testing.T) {
	d := disk.New()
	j := open(t, d, "P10.1", book{})
	j.Sync()
	holds(t, d, j, "P10.1", book{})
	d, j, want := some(t, []string{"a", ""}, texts())
	want.loose = 0
	for range 2 {
		j.Sync()
		holds(t, d, j, "P10.1", want)
	}
	d.Crash(0)
	holds(t, d, j, "P10.1", want)
	if err := j.Add("loose"); err != nil {
		t.Fatalf("P10.1: Add: %v", err)
	}
	want, _ = want.added("loose")
	holds(t, d, j, "P10.1", want)
	d.Crash(0)
	open(t, d, "P10.1", book{want.records[:len(want.records)-1], 0})
}

// P10.1: these are all there are, whatever was there, and nothing is loose.
func TestTrim(t *testing.T) {
	for _, records := range [][]string{nil, {}, {""}, {"a"}, {"", "", ""}, {"reed", "reed"}, texts()} {
		for _, there := range [][]string{nil, {"s"}, {strings.Repeat("s", most/2)}} {
			for _, loose := range [][]string{nil, {"l", ""}, {strings.Repeat("l", most/3)}} {
				d, j, _ := some(t, there, loose)
				if err := j.Trim(records); err != nil {
					t.Fatalf("P10.1: Trim(%.20q): %v", records, err)
				}
				holds(t, d, j, "P10.1", book{records, 0})
				d.Crash(0)
				open(t, d, "P10.1", book{records, 0})
				if err := j.Add("behind"); err != nil {
					t.Fatalf("P10.1: Add: %v", err)
				}
				open(t, d, "P10.1", book{append(slices.Clone(records), "behind"), len(frame.Wrap("behind"))})
			}
		}
	}
}

// P10.1: to what is there already, or a part of it.
func TestTrimToItsOwn(t *testing.T) {
	d, j, want := some(t, []string{"a", "b"}, []string{"", "c", "d"})
	for _, part := range [][]string{want.records, want.records[1:4], want.records[2:3], nil} {
		if err := j.Trim(part); err != nil {
			t.Fatalf("P10.1: Trim(%q): %v", part, err)
		}
		open(t, d, "P10.1", book{part, 0})
	}
}

// P10.1: the last byte for which there is room, whatever is there; one more is ErrFull, and all is as it was.
func TestTrimFull(t *testing.T) {
	half, whole := strings.Repeat("h", most/2-7), strings.Repeat("w", most-7)
	for _, c := range []struct {
		records []string
		fits    bool
	}{
		{[]string{whole}, true}, {[]string{whole + "w"}, false},
		{[]string{half, half}, true}, {[]string{half, half + "h"}, false}, {[]string{half + "h", half}, false}, {[]string{half, half, ""}, false}, {[]string{"", half, half}, false}, {[]string{half, whole, ""}, false},
		{make([]string, most/5), true}, {make([]string, most/5+1), false}, {append(make([]string, most/5-1), "x"), false}, {append([]string{"x"}, make([]string, most/5-1)...), false},
		{[]string{strings.Repeat("r", most)}, false}, {[]string{strings.Repeat("r", most+1)}, false}, {[]string{strings.Repeat("r", 1<<24), "x"}, false},
	} {
		if c.fits != (len(wraps(c.records)) <= most) {
			t.Fatalf("%d bytes", len(wraps(c.records)))
		}
		for _, there := range [][2][]string{{}, {{"s"}, {"l", ""}}, {{"s"}, {half}}, {{whole}, nil}, {nil, {whole}}} {
			d, j, want := some(t, there[0], there[1])
			open(t, d, "P10.1", tryTrim(t, j, "P10.1", want, c.records))
		}
	}
}

// P10.1: far more than any disk has room for is refused soon.
func TestTrimFarTooMany(t *testing.T) {
	d, j, want := some(t, []string{"s"}, []string{"l"})
	if err := j.Trim(slices.Repeat([]string{strings.Repeat("r", 100000)}, 20000)); !isFull(err) {
		t.Errorf("P10.1: Trim: %v", err)
	}
	open(t, d, "P10.1", want)
}

// P10.1: how many there are: also behind a crash, and where another journal is on the disk.
func TestLen(t *testing.T) {
	d, j, want := some(t, []string{"a", ""}, []string{"b", "c"})
	d.Crash(len(frame.Wrap("b")) + 3)
	if n := j.Len(); n != 3 {
		t.Errorf("P10.1: Len behind a crash: %d", n)
	}
	want = book{[]string{"a", "", "b"}, 0}
	other := open(t, d, "P10.1", want)
	if err := other.Add("d"); err != nil {
		t.Fatalf("P10.1: Add: %v", err)
	}
	want, _ = want.added("d")
	holds(t, d, j, "P10.1", want)
	holds(t, d, other, "P10.1", want)
	if err := j.Trim(nil); err != nil {
		t.Fatalf("P10.1: Trim: %v", err)
	}
	holds(t, d, other, "P10.1", book{})
}

// P10.1: two disks have nothing to do with one another.
func TestApart(t *testing.T) {
	a, j, want := some(t, []string{"a"}, []string{"b"})
	b, k, _ := some(t, []string{"a"}, []string{"b"})
	if k.Add("c") != nil || k.Trim([]string{"d"}) != nil {
		t.Fatal("P10.1: Add, Trim")
	}
	holds(t, a, j, "P10.1", want)
	holds(t, b, k, "P10.1", book{[]string{"d"}, 0})
}

// P10.1: an error says who refused, wraps what disk told, and is told by errors.Is.
func TestErrors(t *testing.T) {
	_, j, _ := some(t, nil, nil)
	large := strings.Repeat("r", most)
	for who, err := range map[string]error{"journal.Add: ": j.Add(large), "journal.Trim: ": j.Trim([]string{large})} {
		var below *fault.Fault
		if !isFull(err) || !strings.HasPrefix(err.Error(), who) || !errors.As(err, &below) || !errors.Is(err, below) {
			t.Errorf("P10.1: %s%v", who, err)
		}
	}
}

// P10.1: no two answers of Open share memory, and what Trim was handed is neither changed nor kept, the spare room included.
func TestMemory(t *testing.T) {
	d, j, want := some(t, []string{"a", "b", "c"}, []string{"d", "e"})
	_, first, _ := journal.Open(d)
	_, second, _ := journal.Open(d)
	first = first[:cap(first)]
	for i := range first {
		first[i] = "spoilt"
	}
	if !slices.Equal(second, want.records) {
		t.Errorf("P10.1: spoilt: %q", second)
	}
	open(t, d, "P10.1", want)
	handed := []string{"x", "y", "z", "room"}
	if err := j.Trim(handed[:3]); err != nil || !slices.Equal(handed, []string{"x", "y", "z", "room"}) {
		t.Errorf("P10.1: Trim: %q, %v", handed, err)
	}
	clear(handed)
	open(t, d, "P10.1", book{[]string{"x", "y", "z"}, 0})
}

// P10.2: the document's example.
func TestExample(t *testing.T) {
	d := disk.New()
	j := open(t, d, "P10.2", book{})
	if err := j.Add("reed"); err != nil {
		t.Fatalf("P10.2: Add: %v", err)
	}
	j.Sync()
	d.Crash(0)
	open(t, d, "P10.2", book{[]string{"reed"}, 0})
}

// P10.2: wherever it tears: all that was synced is there, of what wasn't those ahead of it, and of none a part.
func TestTornAnywhere(t *testing.T) {
	for _, synced := range [][]string{nil, {"s"}, {"", strings.Repeat("s", 70)}} {
		for _, loose := range [][]string{nil, {""}, {"l", "", "reed"}, {frame.Wrap("in"), "", frame.Wrap("cut")[:6], strings.Repeat("l", 64), strings.Repeat("\x00", 9)}} {
			for n := -1; n <= len(wraps(loose))+1; n++ {
				d, _, was := some(t, synced, loose)
				d.Crash(n)
				want := was.crashed(n)
				j := open(t, d, "P10.2", want)
				if len(want.records) < len(synced) || !slices.Equal(want.records, was.records[:len(want.records)]) {
					t.Fatalf("P10.2: Crash(%d): %q of %q", n, want.records, was.records)
				}
				if err := j.Add("next"); err != nil {
					t.Fatalf("P10.2: Add: %v", err)
				}
				j.Sync()
				d.Crash(0)
				open(t, d, "P10.2", book{append(slices.Clone(want.records), "next"), 0})
			}
		}
	}
}

// P10.2: what Trim put there is wholly so, and what it refused touched nothing, whatever crash comes.
func TestTrimThenCrash(t *testing.T) {
	for _, n := range []int{math.MinInt, -1, 0, 1, 7, math.MaxInt} {
		d, j, was := some(t, []string{"a", "b"}, []string{"c", "reed"})
		if err := j.Trim([]string{"all", strings.Repeat("r", most)}); !isFull(err) {
			t.Fatalf("P10.2: Trim: %v", err)
		}
		d.Crash(n)
		open(t, d, "P10.2", was.crashed(n))
		d, j, _ = some(t, []string{"a", "b"}, []string{"c", "reed"})
		if err := j.Trim([]string{"all", "there"}); err != nil {
			t.Fatalf("P10.2: Trim: %v", err)
		}
		d.Crash(n)
		open(t, d, "P10.2", book{[]string{"all", "there"}, 0})
	}
}

// P10.2: a record that was torn comes back neither by what is added behind it nor by a second Open.
func TestTornStaysAway(t *testing.T) {
	whole := frame.Wrap("shore")
	for n := range len(whole) {
		d, _, _ := some(t, []string{"a"}, []string{"shore"})
		d.Crash(n)
		j := open(t, d, "P10.2", book{[]string{"a"}, 0})
		if err := j.Add(whole[n:]); err != nil {
			t.Fatalf("P10.2: Add: %v", err)
		}
		open(t, d, "P10.2", book{[]string{"a", whole[n:]}, len(frame.Wrap(whole[n:]))})
	}
}

// P10.2: long runs of calls of all sorts, on disks that fill up, too.
func TestLongRuns(t *testing.T) {
	for seed, size := range []int{3, 70, 3000, 60000} {
		next := rand.New(rand.NewPCG(uint64(seed), 10)).IntN
		d := disk.New()
		j, want := open(t, d, "P10.2", book{}), book{}
		for range 600 {
			r := strings.Repeat(string(rune('a'+next(26))), next(size))
			switch next(10) {
			case 0:
				j.Sync()
				want.loose = 0
			case 1:
				n := next(2*want.loose+9) - 4
				d.Crash(n)
				want = want.crashed(n)
				j = open(t, d, "P10.2", want)
			case 2:
				want = tryTrim(t, j, "P10.2", want, slices.Repeat([]string{r}, next(9)))
			default:
				want = tryAdd(t, j, "P10.2", want, r)
			}
			holds(t, d, j, "P10.2", want)
		}
	}
}
