package node_test

import (
	"errors"
	"fmt"
	"slices"
	"strings"
	"testing"

	"estuary/api"
	"estuary/image"
	"estuary/node"
	"estuary/shard"
)

// big: a shard of so many cells, none of which history has.
func big(id, cells int) api.Shard {
	s := shard.New(id, 1, all)
	for i := range cells {
		s.Cells = append(s.Cells, api.Cell{Key: fmt.Sprintf("k%06d", i), Value: fullest, Version: 1, Floor: 1})
	}
	return s
}

// fat: with the longest answers that may be noted; both parts of one that is split have these.
func fat(id, cells int) api.Shard {
	s := big(id, cells)
	text := strings.Repeat("t", 255)
	for session := range api.MaxSessions {
		d := api.Done{Session: session, ID: 1}
		for range api.MaxRows {
			d.Answer.Rows = append(d.Answer.Rows, api.Row{Key: text, Value: text, Version: 1})
		}
		s.Done = append(s.Done, d)
	}
	return s
}

// filled: a node on whose disk left bytes are free, and its model.
func filled(t *testing.T, left int) (*node.Node, *model) {
	t.Helper()
	n, m := both(t, 1, pair())
	id := 200
	note := func(o api.Op) {
		id++
		n.Take(asked(0, id, o))
		m.take(asked(0, id, o))
	}
	size := func(o api.Op) int { return sizeOf(api.Record{Kind: api.RAsk, N: [5]int{0, id}, Op: o}) }
	four := func(length int) api.Op { return batch(mostAsk[:length], "a", "b", "c", "d") }
	for m.free()-left > 3*size(four(40)) { // these are too large, but it is noted that they were asked
		note(four(40))
	}
	for m.free()-left > size(four(40))+size(put("a", "")) {
		note(four(20))
	}
	length := 40
	for size(four(length))+size(put("a", "")) > m.free()-left {
		length--
	}
	note(four(length))
	note(put("a", mostAsk[:m.free()-left-size(put("a", ""))]))
	if same(t, n, m, "filled"); m.free() != left {
		t.Fatalf("%d bytes are free, not %d", m.free(), left)
	}
	return n, m
}

// P19.1: a record goes on the disk up to its last byte, and no further; then nothing is changed, and nothing answered.
func TestFull(t *testing.T) {
	for i, l := range slices.Concat([]api.Letter{asked(1, 200, put("a", "v")), asked(2, 200, batch("w", "a", "b")), asked(1, 200, api.Op{Kind: api.OCompact, Key: "a"}), to(api.LFreeze, 1, 3), to(api.LThaw, 1, 3), to(api.LThaw, 2, 5), to(api.LDrop, 2, 5), in(sp("c", ""), to(api.LSplit, 1, 3, 11, 12))}, pushes(stock(7, 2, sp("p", "")))) {
		if l.Kind == api.LPush {
			continue
		}
		first := func(n *node.Node, m *model) {
			for _, x := range pushes(stock(7, 2, sp("p", ""))) {
				if l.Kind == api.LInstall && x.Kind == api.LPush {
					take(t, n, m, x)
				}
			}
		}
		n, m := both(t, 1, pair())
		first(n, m)
		was := n.Waits()
		if take(t, n, m, l); n.Waits() != was+1 || n.Loose() == 0 {
			t.Fatalf("P19.1: row %d is to do something: Waits %d, Loose %d", i, n.Waits(), n.Loose())
		}
		size := n.Loose()
		for _, left := range []int{size, size - 1, 0} {
			n, m := filled(t, left)
			first(n, m)
			before, loose := n.Waits(), n.Loose()
			if take(t, n, m, l); (n.Waits() == before+1) != (left == size) || (n.Loose() == loose+size) != (left == size) {
				t.Errorf("P19.1: row %d with %d bytes for %d: Waits %d, then %d; Loose %d, then %d", i, left, size, before, n.Waits(), loose, n.Loose())
			}
			synced(t, n, m, l)
			crash(t, n, m, 0)
		}
	}
}

// P19.1: on a disk that is full what needs no record is still answered, and what is refused as such is, too; Trim makes room.
func TestFullGoesOn(t *testing.T) {
	n, m := filled(t, 0)
	synced(t, n, m, "filled")
	for i, c := range []struct {
		l    api.Letter
		want int
	}{
		{asked(0, 9999, get("a")), api.LAnswer}, {asked(0, 9999, put("m", "v")), api.LAnswer}, {asked(2, 9, put("a", "v")), api.LAnswer}, {asked(0, 9999, put("a", "v")), 0},
		{poll(all, []int{1, 8}), api.LFeed}, {to(api.LFreeze, 2, 5), api.LFrozen}, {to(api.LFreeze, 1, 3), 0}, {to(api.LPull, 2, 5), api.LPiece}, {to(api.LPush, 9, 1), api.LPushed},
		{to(api.LInstall, 9, 1, 1), api.LInstalled}, {to(api.LThaw, 2, 4), api.LThawed}, {to(api.LThaw, 2, 5), 0}, {to(api.LDrop, 9, 5), api.LDropped}, {to(api.LDrop, 2, 5), 0},
		{in(sp("m", ""), to(api.LSplit, 1, 3, 11, 12)), api.LCut}, {in(sp("c", ""), to(api.LSplit, 1, 3, 11, 12)), 0}, {to(api.LJoin, 1, 3, 2, 5, 11), api.LCut},
	} {
		take(t, n, m, c.l)
		if got := synced(t, n, m, c.l); c.want == 0 && len(got) > 0 || c.want > 0 && (len(got) != 1 || got[0].Kind != c.want) {
			t.Errorf("P19.1: row %d: %+v", i, got)
		}
	}
	trim(t, n, m)
	take(t, n, m, asked(0, 9999, put("a", "v")))
	if got := synced(t, n, m, "room"); len(got) != 1 || got[0].Answer.Code != 0 {
		t.Errorf("P19.1: behind Trim: %+v", got)
	}
	crash(t, n, m, 0)
}

// P19.1: a join without room leaves both.
func TestFullJoin(t *testing.T) {
	n, m := filled(t, 60)
	take(t, n, m, to(api.LThaw, 2, 5)) // some 20 bytes
	for i := 0; m.free() >= sizeOf(api.Record{Kind: api.RJoin, N: [5]int{1, 3, 2, 6, 11}}); i++ {
		take(t, n, m, to(api.LThaw, 1, 3+i))
		if i > 9 {
			t.Fatal("P19.1: there is always room")
		}
	}
	s, _ := n.Hold().Get(1)
	was := n.Waits()
	if take(t, n, m, to(api.LJoin, 1, s.Epoch, 2, 6, 11)); n.Waits() != was || len(n.Hold().Shards()) != 2 {
		t.Errorf("P19.1: joined without room: %s", say(n.Hold()))
	}
}

// P19.1: Trim tells that all there is has no room on the disk; then nothing is changed.
func TestTrimFull(t *testing.T) {
	first := shards{fat(1, 7000)}
	n, m := both(t, 1, first)
	if len(n.Hold().Shards()) != 1 {
		t.Fatalf("P19.1: %d bytes are to be there", len(image.Bytes(first[0])))
	}
	trim(t, n, m)
	take(t, n, m, asked(1, 7, put("a", "v")))
	take(t, n, m, in(sp("k003", ""), to(api.LSplit, 1, 1, 2, 3)))
	take(t, n, m, asked(0, 8, get("k000001")))
	loose, waits := n.Loose(), n.Waits()
	err := n.Trim()
	if !isCode(err, api.ErrFull) || !errors.Is(err, api.ErrFull) || m.trim() != api.ErrFull || n.Loose() != loose || n.Waits() != waits || loose == 0 || waits != 3 {
		t.Errorf("P19.1: Trim: %v, Loose %d, then %d; Waits %d, then %d", err, loose, n.Loose(), waits, n.Waits())
	}
	same(t, n, m, "Trim")
	synced(t, n, m, "Trim")
	crash(t, n, m, 0)
	if got := len(n.Hold().Shards()); got != 2 {
		t.Errorf("P19.3: %d shards", got)
	}
}

// P19.2: an image of at most 1000 pieces comes in; of a greater one the pieces behind these don't.
func TestManyPieces(t *testing.T) {
	for _, c := range []struct {
		cells int
		fits  bool
	}{{2600, true}, {2700, false}} {
		s := big(1, c.cells)
		l := pushes(s)
		if fits := len(l)-1 <= 1000; fits != c.fits {
			t.Fatalf("%d cells: %d pieces", c.cells, len(l)-1)
		}
		n := node.New(1, nil)
		for _, x := range l {
			n.Take(x)
		}
		got := n.Sync()
		if last := got[len(got)-1]; (last.N[2] == 0) != c.fits || (len(n.Hold().Shards()) == 1) != c.fits || len(got) != min(len(l)-1, 1000)+1 {
			t.Errorf("P19.2: %d pieces: %d answers, %+v", len(l)-1, len(got), last)
		}
	}
}

// P19.2: exactly 1000 pieces are together, also where these are short ones; 1001 never are.
func TestThousandPieces(t *testing.T) {
	s := frozen(stock(1, 1, all))
	b := image.Bytes(s)
	for _, n := range []int{1, 2, 999, 1000} {
		x, m := both(t, 1, nil)
		for i := range n {
			data := ""
			if i == n-1 {
				data = b
			}
			x.Take(with(data, to(api.LPush, 1, 2, i)))
			m.take(with(data, to(api.LPush, 1, 2, i)))
		}
		for _, pieces := range []int{0, n - 1, n + 1, api.MaxRev, n} {
			take(t, x, m, to(api.LInstall, 1, 2, pieces))
		}
		got := synced(t, x, m, n)
		if got[len(got)-1].N[2] != 0 || got[len(got)-2].N[2] != 1 || len(x.Hold().Shards()) != 1 {
			t.Errorf("P19.2: %d pieces: %+v", n, got[len(got)-5:])
		}
	}
}

// P19.2: pieces are those of one shard and epoch; a piece that comes again is the last one's, and one that lacks lacks wherever it stands.
func TestPieces(t *testing.T) {
	s := big(7, 12)
	s.Epoch = 2
	l := pushes(s)
	last := len(l) - 1
	if last < 3 {
		t.Fatal("too few pieces")
	}
	installed := func(letters ...api.Letter) bool {
		n, m := both(t, 1, nil)
		for _, x := range letters {
			take(t, n, m, x)
		}
		synced(t, n, m, "pieces")
		return len(n.Hold().Shards()) == 1
	}
	turned := slices.Clone(l[:last])
	slices.Reverse(turned)
	if !installed(l...) || !installed(append(turned, l[last])...) || !installed(slices.Concat(l[:last], l)...) || !installed(slices.Concat(l[:last], l[last:], l)...) {
		t.Error("P19.2: all pieces are there, in whatever order")
	}
	for _, other := range [][2]int{{8, 3}, {7, 4}, {7, 2}, {0, 0}} {
		var under []api.Letter
		for _, x := range l[:last] {
			under = append(under, with(x.Data, to(api.LPush, other[0], other[1], x.N[2])))
		}
		if installed(append(under, l[last])...) || installed(slices.Concat(l[:last], []api.Letter{to(api.LInstall, other[0], other[1], last)})...) {
			t.Errorf("P19.2: pieces of shard %d, epoch %d are those of another one", other[0], other[1])
		}
	}
	for i := range last {
		if installed(slices.Delete(slices.Clone(l), i, i+1)...) {
			t.Errorf("P19.2: piece %d lacks", i)
		}
		spoilt := with("other", l[i])
		if installed(slices.Concat(l[:last], []api.Letter{spoilt}, l[last:])...) || !installed(slices.Concat([]api.Letter{spoilt}, l)...) {
			t.Errorf("P19.2: piece %d comes twice", i)
		}
		for _, other := range []api.Letter{to(api.LPush, 7, 4, 0), to(api.LPush, 7, 2, 0), to(api.LPush, 8, 3, 0), to(api.LPush, 0, 0, 0), to(api.LPush, 7, 4, 999), to(api.LPush, 8, 3, 999)} {
			if installed(slices.Insert(slices.Clone(l), i+1, other)...) {
				t.Errorf("P19.2: pieces stay, though %+v came behind piece %d", other, i)
			}
		}
		if !installed(slices.Insert(slices.Clone(l), i+1, to(api.LPush, 7, 4, 1000), to(api.LInstall, 9, 9, 1), to(api.LFreeze, 7, 2), asked(0, 1, get("a")))...) {
			t.Errorf("P19.2: pieces behind piece %d are forgotten", i)
		}
	}
}
