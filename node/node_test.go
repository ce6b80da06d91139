package node_test

import (
	"fmt"
	"math"
	"math/rand/v2"
	"slices"
	"strings"
	"testing"

	"estuary/api"
	"estuary/image"
	"estuary/letter"
	"estuary/node"
	"estuary/op"
	"estuary/shard"
)

// pair: shards 1 and 2, which touch at m; 2 is frozen.
func pair() shards {
	return shards{stock(1, 3, sp("", "m")), frozen(stock(2, 5, sp("m", "")))}
}

// starts: what a node may begin with.
func starts() []shards {
	full := row(8)
	full[2].Frozen = true
	return []shards{
		nil, {shard.New(1, 1, all)}, {stock(1, 1, all)}, pair(), {stock(2, 2, sp("m", "")), stock(1, 3, sp("", "m"))},
		{stock(1, api.MaxEpoch, sp("", "m")), frozen(stock(2, api.MaxEpoch-1, sp("m", "x")))}, full, row(7),
		{stock(1, 1, all), frozen(stock(2, 2, all)), stock(3, 3, sp("c", "n"))},
	}
}

// pushes: an image in pieces to node 1, under the next epoch, and the letter that installs it.
func pushes(s api.Shard) []api.Letter {
	var l []api.Letter
	pieces := image.Pieces(image.Bytes(frozen(s)))
	for i, p := range pieces {
		l = append(l, with(p, to(api.LPush, s.ID, s.Epoch+1, i)))
	}
	return append(l, to(api.LInstall, s.ID, s.Epoch+1, len(pieces)))
}

// letters: of all Kinds, good and wrong ones, to node 1.
func letters() []api.Letter {
	var l []api.Letter
	for i, o := range []api.Op{get("a"), put("a", "new"), put("m", ""), put("x", fullest), put("x", mostAsk), {Kind: api.ODel, Key: "a"}, {Kind: api.ODel, Key: "none"}, {Kind: api.OCas, Key: "a", Value: "v", Version: 1}, {Kind: api.OCas, Key: "m", Value: "v", Version: 9}, between("a", "m"), between("a", ""), between("m", "z"), batch("v", "a", "b"), batch("v", "b", "z"), batch(mostAsk, "a"), {Kind: api.OCompact, Key: "a", Version: 1}, {Kind: api.OCompact, Key: "x"}} {
		l = append(l, asked(i%3, 20, o), asked(0, 1, o), asked(2, 9, o))
	}
	l = append(l, asked(0, 0, put("a", "v")), asked(0, 1, put(longest, "v")), asked(1, api.MaxRev, put("a", "v")), asked(1, api.MaxRev+1, put("a", "v")), asked(3, 1, put("a", "v")), asked(-1, 1, put("a", "v")), from(api.Mover, asked(0, 1, put("a", "v"))), from(0, asked(0, 1, put("a", "v"))), from(1, asked(0, 30, get("a"))), asked(0, 1, api.Op{}), asked(0, 1, get("")))
	more := asked(1, 40, put("b", "v"))
	more.N = [5]int{40, 7, 8, 9, 10}
	l = append(l, more)
	for i, p := range []api.Span{all, sp("", "m"), sp("", "c"), sp("a", "b"), sp("c", "x"), sp("m", ""), sp("m", "n"), sp("x", ""), sp("l", "m\x00"), sp(longest, ""), sp("", "\x00"), sp("z", "a")} {
		l = append(l, poll(p, []int{i, 8, 3}), poll(p, []int{1, 2, 0, 7, 7}, api.Seen{Key: "a", Version: 1}, api.Seen{Key: "c", Version: 1}, api.Seen{Key: "m", Version: 2}))
	}
	for _, credit := range []int{0, 1, 9, api.MaxRev, -1} {
		l = append(l, poll(all, []int{2, credit, 5}, api.Seen{Key: "c", Version: 1}, api.Seen{Key: "m", Version: 1}))
	}
	l = append(l, from(api.Mover, poll(all, []int{1, 1, 1})), from(0, poll(all, []int{1, 1, 1})), poll(all, nil, api.Seen{Key: "b", Version: 1}, api.Seen{Key: "a", Version: 1}))
	for _, kind := range []int{api.LFreeze, api.LThaw, api.LDrop, api.LPull, api.LInstall} {
		for _, n := range [][]int{{1, 1}, {1, 3}, {2, 2}, {2, 5}, {3, 3}, {1, 2, 1}, {1, 4, 1}, {2, 6}, {2, 1}, {1, api.MaxEpoch}, {2, api.MaxEpoch - 1, 3}, {2, 5, 1}, {2, 5, 2}, {2, 5, 9}, {2, 5, api.MaxRev}, {9, 1, 1000}, {9, 0}, {0, 0}, {0, 1}, {2, 5, 0, 4, 4}, {-1, 1}} {
			l = append(l, to(kind, n...))
		}
		l = append(l, from(api.Sessions, to(kind, 1, 3)), from(2, to(kind, 2, 5)), from(3, to(kind, 2, 5)))
	}
	return slices.Concat(l, cuts(), pieces(), others())
}

func cuts() []api.Letter {
	var l []api.Letter
	for _, key := range []string{"", "a", "c", "m", "x", longest, longest + "k"} {
		for _, n := range [][]int{{1, 1, 11, 12}, {1, 3, 11, 12}, {1, 3, 12, 11, 9}, {2, 2, 11, 12}, {1, 3, 1, 12}, {1, 3, 11, 2}, {1, 3, 11, 11}, {1, 3, 0, 12}, {1, 2, 11, 12}, {9, 9, 11, 12}, {9, 0, 11, 12}} {
			l = append(l, in(sp(key, ""), to(api.LSplit, n...)))
		}
	}
	for _, n := range [][]int{{1, 3, 2, 2, 11}, {2, 2, 1, 3, 11}, {1, 1, 2, 2, 11}, {1, 3, 2, 2, 1}, {1, 3, 2, 2, 0}, {1, 3, 2, 1, 11}, {1, 3, 9, 1, 11}, {1, 3, 1, 3, 11}, {4, 4, 5, 5, 11}, {9, 0, 2, 2, 11}, {1, 3, 2, 5, 11}, {1, 3, 2, 2, -1}} {
		l = append(l, to(api.LJoin, n...), in(sp("m", ""), to(api.LJoin, n...)))
	}
	return l
}

func pieces() []api.Letter {
	var l []api.Letter
	for _, n := range [][]int{{1, 4, 0}, {1, 4, 1}, {1, 4, 999}, {1, 4, 1000}, {1, 4, api.MaxRev}, {2, 6, 0}, {2, 7, 0}, {0, 0, 0}, {0, 1, 0}, {9, 1, 0, 5, 5}, {1, 4, -1}} {
		l = append(l, with("some", to(api.LPush, n...)), to(api.LPush, n...), with(strings.Repeat("d", 256), to(api.LPush, n...)))
	}
	return append(slices.Concat(l, pushes(stock(7, 2, sp("p", "")))), with("of another one", to(api.LPush, 7, 3, 0)))
}

// others: of Kinds that no node takes, to other ones, and from nowhere.
func others() []api.Letter {
	l := []api.Letter{{}, {To: 1}, {Kind: -1, To: 1}, {Kind: api.LCut + 1, To: 1}, {Kind: api.LFreeze, From: 7, To: 1, N: [5]int{1, 1}}}
	for _, kind := range []int{api.LAnswer, api.LFeed, api.LMap, api.LPlan, api.LFrozen, api.LPiece, api.LPushed, api.LInstalled, api.LThawed, api.LDropped, api.LCut} {
		l = append(l, to(kind, 1, 3), to(kind, 2, 5))
	}
	for _, who := range []int{-1, 0, 2, 3, api.Mover, api.Sessions, api.Sessions + 2} {
		freeze, ask := to(api.LFreeze, 1, 3), asked(0, 20, put("a", "v"))
		freeze.To, ask.To = who, who
		l = append(l, freeze, ask)
	}
	withOp, withSpan, withAnswer := to(api.LFreeze, 1, 3), in(sp("z", "a"), to(api.LFreeze, 1, 3)), to(api.LDrop, 2, 5)
	withOp.Op, withAnswer.Answer = put("a", "v"), api.Answer{Version: 1}
	return append(l, withOp, withSpan, withAnswer)
}

// P19.1: what isn't Is isn't there; all else is, at once and behind any crash.
func TestNew(t *testing.T) {
	good := stock(1, 3, sp("", "m"))
	for i, first := range append(starts(), shards{none, good}, shards{good, {ID: 2, Epoch: 1, Span: sp("z", "a")}, none}, shards{none}, shards{shard.New(1, 0, all), shard.New(2, api.MaxEpoch+1, all), shard.New(0, 1, all)}) {
		for _, id := range []int{0, 1, 2, -1, 3, math.MaxInt} {
			n, m := both(t, id, first)
			for _, s := range first {
				if got, there := n.Hold().Get(s.ID); there != shard.Is(s) || there && !shard.Same(got, s) {
					t.Errorf("P19.1: start %d: of shard %d: %v, %+v", i, s.ID, there, got)
				}
			}
			if got := synced(t, n, m, "New"); len(got) > 0 {
				t.Errorf("P19.1: start %d: %+v", i, got)
			}
			crash(t, n, m, 0)
			trim(t, n, m)
			crash(t, n, m, math.MaxInt)
		}
	}
	if n := node.New(1, shards{good, none}); len(n.Hold().Shards()) != 1 {
		t.Error("P19.1: one of two is Is")
	}
}

// P19.1: where the record of the first ones can't be nothing is there: with one number twice, with more shards than a record has, with more bytes than the disk has.
func TestNoBase(t *testing.T) {
	for i, first := range []shards{{shard.New(1, 1, sp("", "m")), shard.New(1, 2, sp("m", ""))}, row(9), {big(1, 8400)}} {
		n, m := both(t, 1, first)
		take(t, n, m, asked(0, 1, get("a")))
		if got := synced(t, n, m, "get"); len(n.Hold().Shards()) != 0 || len(got) != 1 || got[0].Answer.Code != int(api.ErrMoved) {
			t.Errorf("P19.1: row %d: %s, %+v", i, say(n.Hold()), got)
		}
		crash(t, n, m, 0)
		trim(t, n, m)
		for _, l := range pushes(stock(4, 1, all)) {
			take(t, n, m, l)
		}
		if len(n.Hold().Shards()) != 1 {
			t.Errorf("P19.1: row %d: it takes no shard", i)
		}
	}
}

// back: an answer of node 1.
func back(kind, to int, n ...int) api.Letter {
	l := api.Letter{Kind: kind, From: 1, To: to}
	copy(l.N[:], n)
	return l
}

func answered(session, id int, a api.Answer) api.Letter {
	l := back(api.LAnswer, api.Sessions+session, id)
	l.Answer = a
	return l
}

func fed(p api.Span, n []int, events ...api.Event) api.Letter {
	l := in(p, back(api.LFeed, api.Sessions+2, n...))
	l.Events = events
	return l
}

// P19.2: of the pair each letter is answered so, or not at all.
func TestTake(t *testing.T) {
	two := image.Pieces(image.Bytes(frozen(stock(2, 5, sp("m", "")))))
	one := image.Pieces(image.Bytes(frozen(stock(1, 3, sp("", "m")))))
	nothing := api.Letter{}
	c1 := api.Event{Key: "c", Version: 1, Value: "3"}
	c2 := api.Event{Key: "c", Version: 2, Del: true}
	for i, c := range []struct {
		take, want api.Letter
		records    bool
	}{
		{asked(0, 20, get("a")), answered(0, 20, api.Answer{Value: "1", Version: 1}), false},
		{asked(0, 20, get("b")), answered(0, 20, api.Answer{Code: int(api.ErrNone)}), false},
		{asked(0, 20, get("m")), answered(0, 20, api.Answer{Code: int(api.ErrMoved)}), false},
		{asked(0, 20, put("m", "v")), answered(0, 20, api.Answer{Code: int(api.ErrMoved)}), false},
		{asked(0, 20, put("a", "v")), answered(0, 20, api.Answer{Version: 2}), true},
		{asked(0, 20, put("a", mostAsk)), answered(0, 20, api.Answer{Code: int(api.ErrLarge), Version: 1}), true},
		{asked(2, 10, between("a", "m")), answered(2, 10, api.Answer{Rows: []api.Row{{Key: "a", Value: "1", Version: 1}}}), false},
		{asked(2, 10, between("a", "")), answered(2, 10, api.Answer{Code: int(api.ErrSplit)}), false},
		{asked(2, 9, put("a", "v")), answered(2, 9, api.Answer{Code: 14, Rows: []api.Row{{Key: "row", Version: 1}, {Key: "two"}}}), false},
		{asked(2, 9, get("a")), answered(2, 9, api.Answer{Code: 14, Rows: []api.Row{{Key: "row", Version: 1}, {Key: "two"}}}), false},
		{asked(2, 8, put("a", "v")), nothing, false},
		{asked(2, 8, get("a")), nothing, false},
		{asked(0, 20, batch("v", "a", "z")), answered(0, 20, api.Answer{Code: int(api.ErrSplit)}), true},
		{asked(0, 20, batch("v", "m", "z")), answered(0, 20, api.Answer{Code: int(api.ErrMoved)}), false},
		{asked(0, 0, put("a", "v")), nothing, false},
		{from(api.Mover, asked(0, 20, put("a", "v"))), nothing, false},
		{from(2, asked(0, 20, get("a"))), nothing, false},
		{poll(all, []int{2, 8, 5}, api.Seen{Key: "a", Version: 1}), fed(sp("", "m"), []int{2, 0, 5, 0, 1}, c1, c2), false},
		{poll(all, []int{2, 1, 5}, api.Seen{Key: "a", Version: 1}), fed(sp("", "m"), []int{2, 0, 5, 0, 1}, c1), false},
		{poll(all, []int{2, 8, 5}), fed(sp("", "m"), []int{2, 0, 5, 1, 1}), false},
		{poll(sp("", "c"), []int{2, 8, 5}), fed(sp("", "c"), []int{2, 0, 5, 1}), false},
		{poll(sp("b", "d"), []int{2, 8, 5}), fed(sp("b", "d"), []int{2, 0, 5}, c1, c2), false},
		{poll(sp("b", "d"), []int{2, 0, 5}), fed(sp("b", "d"), []int{2, 0, 5}), false},
		{poll(sp("b", "m"), []int{1, 1, 0}, api.Seen{Key: "c", Version: 1}), fed(sp("b", "m"), []int{1}, c2), false},
		{poll(sp("b", "m\x00"), []int{1, 1, 0}, api.Seen{Key: "c", Version: 2}), fed(sp("b", "m"), []int{1, 0, 0, 0, 1}), false},
		{poll(sp("m", ""), []int{1, 8, 4}), fed(all, []int{1, 0, 4, 2}), false},
		{to(api.LFreeze, 1, 3), back(api.LFrozen, api.Mover, 1, 3, len(one)), true},
		{to(api.LFreeze, 2, 5, 9), back(api.LFrozen, api.Mover, 2, 5, len(two)), false},
		{to(api.LFreeze, 1, 2), nothing, false},
		{to(api.LFreeze, 1, 4), nothing, false},
		{to(api.LFreeze, 3, 3), nothing, false},
		{to(api.LPull, 2, 5), with(two[0], back(api.LPiece, api.Mover, 2, 5)), false},
		{to(api.LPull, 2, 5, len(two)-1), with(two[len(two)-1], back(api.LPiece, api.Mover, 2, 5, len(two)-1)), false},
		{to(api.LPull, 2, 5, len(two)), nothing, false},
		{to(api.LPull, 2, 4), nothing, false},
		{to(api.LPull, 2, 6), nothing, false},
		{to(api.LPull, 1, 3), nothing, false},
		{with("any", to(api.LPush, 9, 1, 999)), back(api.LPushed, api.Mover, 9, 1, 999), false},
		{with("any", to(api.LPush, 9, 1, 1000)), nothing, false},
		{to(api.LInstall, 9, 1, 1), back(api.LInstalled, api.Mover, 9, 1, 1), false},
		{to(api.LInstall, 9, 1), back(api.LInstalled, api.Mover, 9, 1, 1), false},
		{to(api.LInstall, 1, 3, 1), back(api.LInstalled, api.Mover, 1, 3), false},
		{to(api.LInstall, 1, 2, 1), back(api.LInstalled, api.Mover, 1, 2), false},
		{to(api.LInstall, 1, 4, 1), back(api.LInstalled, api.Mover, 1, 4, 1), false},
		{to(api.LInstall, 9, 0, 1), back(api.LInstalled, api.Mover, 9, 0), false},
		{to(api.LThaw, 2, 5), back(api.LThawed, api.Mover, 2, 5), true},
		{to(api.LThaw, 1, 3), back(api.LThawed, api.Mover, 1, 3), true},
		{to(api.LThaw, 2, 4), back(api.LThawed, api.Mover, 2, 4), false},
		{to(api.LThaw, 2, 6), nothing, false},
		{to(api.LThaw, 3, 3), nothing, false},
		{to(api.LDrop, 2, 5), back(api.LDropped, api.Mover, 2, 5), true},
		{to(api.LDrop, 1, 3), nothing, false},
		{to(api.LDrop, 2, 4), back(api.LDropped, api.Mover, 2, 4), false},
		{to(api.LDrop, 2, 6), back(api.LDropped, api.Mover, 2, 6), false},
		{to(api.LDrop, 3, 3), back(api.LDropped, api.Mover, 3, 3), false},
		{in(sp("c", ""), to(api.LSplit, 1, 3, 11, 12)), back(api.LCut, api.Mover, 1, 3, 0, 11), true},
		{in(sp("m", ""), to(api.LSplit, 1, 3, 11, 12)), back(api.LCut, api.Mover, 1, 3, 1, 11), false},
		{in(sp("c", ""), to(api.LSplit, 1, 2, 11, 12)), back(api.LCut, api.Mover, 1, 2, 1, 11), false},
		{in(sp("c", ""), to(api.LSplit, 1, 3, 2, 12)), back(api.LCut, api.Mover, 1, 3, 1, 2), false},
		{in(sp("c", ""), to(api.LSplit, 9, 0, 11, 12)), back(api.LCut, api.Mover, 9, 0, 0, 11), false},
		{to(api.LJoin, 1, 3, 2, 5, 11), back(api.LCut, api.Mover, 1, 3, 1, 11), false},
		{to(api.LMap), nothing, false},
		{from(api.Sessions, to(api.LDrop, 2, 5)), back(api.LDropped, api.Sessions, 2, 5), true},
	} {
		n := node.New(1, pair())
		n.Take(c.take)
		if n.Loose() > 0 != c.records {
			t.Errorf("P19.2: row %d, %+v: Loose %d", i, c.take, n.Loose())
		}
		got := n.Sync()
		if c.want.Kind == 0 && len(got) > 0 || c.want.Kind > 0 && (len(got) != 1 || !letter.Same(got[0], c.want)) {
			t.Errorf("P19.2: row %d, %+v: %+v; not %+v", i, c.take, got, c.want)
		}
		if n.Loose() != 0 || n.Waits() != 0 || len(n.Sync()) != 0 {
			t.Errorf("P19.1: row %d: behind Sync Loose %d, Waits %d", i, n.Loose(), n.Waits())
		}
	}
}

// P19.1: nothing is answered ahead of Sync; then all, in order, and once.
func TestWaits(t *testing.T) {
	n := node.New(1, pair())
	for i, l := range []api.Letter{asked(0, 20, put("a", "v")), to(api.LPull, 2, 5), asked(1, 20, get("a")), poll(all, []int{1, 8}), to(api.LThaw, 2, 5), asked(0, 20, put("a", "v"))} {
		if n.Take(l); n.Waits() != i+1 {
			t.Errorf("P19.1: Waits %d, not %d", n.Waits(), i+1)
		}
	}
	loose := n.Loose()
	if err := n.Trim(); err != nil || loose == 0 || n.Loose() != 0 || n.Waits() != 6 {
		t.Errorf("P19.1: Trim: %v, Loose %d, then %d; Waits %d", err, loose, n.Loose(), n.Waits())
	}
	var kinds []int
	got := n.Sync()
	for _, l := range got {
		kinds = append(kinds, l.Kind)
	}
	if !slices.Equal(kinds, []int{api.LAnswer, api.LPiece, api.LAnswer, api.LFeed, api.LThawed, api.LAnswer}) || !letter.Same(got[0], got[5]) || got[2].Answer.Version != 2 {
		t.Errorf("P19.1: Sync: %+v", got)
	}
	if len(n.Sync()) != 0 || n.Waits() != 0 {
		t.Error("P19.1: an answer goes twice")
	}
}

// P19.1: a crash takes what waits, what is loose but for keep bytes of it, and the pieces that came.
func TestCrash(t *testing.T) {
	n := node.New(1, pair())
	version := func() int {
		s, _ := n.Hold().Get(1)
		return s.Cells[0].Version
	}
	n.Take(asked(0, 20, put("a", "v")))
	size := n.Loose()
	for _, c := range []struct{ keep, want int }{{0, 1}, {-1, 1}, {math.MinInt, 1}, {size - 1, 1}, {size, 2}, {1, 2}} {
		n.Take(asked(0, 20, put("a", "v")))
		if n.Crash(c.keep); version() != c.want || n.Loose() != 0 || n.Waits() != 0 || len(n.Sync()) != 0 {
			t.Errorf("P19.1: Crash(%d): Version %d, not %d; Loose %d, Waits %d", c.keep, version(), c.want, n.Loose(), n.Waits())
		}
	}
	n.Take(asked(0, 21, put("a", "v")))
	if n.Crash(math.MaxInt); version() != 3 {
		t.Errorf("P19.1: all of it stays: Version %d", version())
	}
	for _, l := range pushes(stock(7, 2, sp("p", ""))) {
		if l.Kind == api.LInstall {
			n.Sync()
			n.Crash(0)
		}
		n.Take(l)
	}
	if got := n.Sync(); len(got) != 1 || got[0].N[2] != 1 || len(n.Hold().Shards()) != 2 {
		t.Errorf("P19.1: pieces stay: %+v", got)
	}
}

// P19.2: all letters, one behind another one, of all starts.
func TestAll(t *testing.T) {
	l := letters()
	for i, first := range starts() {
		for j, x := range l {
			n, m := both(t, 1, first)
			take(t, n, m, x)
			synced(t, n, m, x)
			take(t, n, m, x)
			take(t, n, m, l[(j*7+i)%len(l)])
			synced(t, n, m, x, l[(j*7+i)%len(l)])
			crash(t, n, m, 0)
		}
	}
}

// P19.2: all letters in a row, there and back, to each of the nodes there are.
func TestInARow(t *testing.T) {
	for _, first := range starts() {
		for id := range api.MaxNodes {
			for _, step := range []int{1, 5, -1, -3} {
				n, m := both(t, id, first)
				l := letters()
				for i := range l {
					x := l[((i*step)%len(l)+len(l))%len(l)]
					if x.To == 1 {
						x.To = id
					}
					take(t, n, m, x)
				}
				synced(t, n, m, "all")
				crash(t, n, m, 0)
			}
		}
	}
}

type deed struct {
	name string
	do   func(*testing.T, *node.Node, *model)
}

// deeds: letters, Sync, crashes, Trim.
func deeds() []deed {
	l := []deed{
		{"Sync", func(t *testing.T, n *node.Node, m *model) { synced(t, n, m, "Sync") }},
		{"Crash(0)", func(t *testing.T, n *node.Node, m *model) { crash(t, n, m, 0) }},
		{"Crash(25)", func(t *testing.T, n *node.Node, m *model) { crash(t, n, m, 25) }},
		{"Trim", func(t *testing.T, n *node.Node, m *model) { trim(t, n, m) }},
		{"pieces", func(t *testing.T, n *node.Node, m *model) {
			for _, l := range pushes(stock(2, 5, sp("m", ""))) {
				take(t, n, m, l)
			}
		}},
	}
	for _, x := range []api.Letter{asked(0, 20, put("a", "v")), asked(0, 21, batch("w", "m", "x")), to(api.LFreeze, 1, 3), to(api.LThaw, 1, 3), to(api.LThaw, 2, 5), to(api.LDrop, 1, 3), to(api.LDrop, 2, 5), to(api.LInstall, 2, 6, 2), with("other", to(api.LPush, 2, 6, 1)), in(sp("c", ""), to(api.LSplit, 1, 3, 11, 12)), to(api.LJoin, 1, 3, 2, 6, 13), to(api.LJoin, 11, 1, 12, 1, 13), poll(all, []int{1, 8})} {
		l = append(l, deed{fmt.Sprint(x), func(t *testing.T, n *node.Node, m *model) { take(t, n, m, x) }})
	}
	return l
}

// P19.1, P19.2: all orders of three deeds, which come again behind them.
func TestOrders(t *testing.T) {
	l := deeds()
	for a := range l {
		for b := range l {
			for c := range l {
				n, m := both(t, 1, pair())
				for _, i := range []int{a, b, c, b, a} {
					l[i].do(t, n, m)
				}
				synced(t, n, m, l[a].name, l[b].name, l[c].name)
				crash(t, n, m, 0)
			}
		}
	}
}

// P19.1: a crash at each byte of what is loose.
func TestTorn(t *testing.T) {
	loose := slices.Concat([]api.Letter{asked(0, 20, put("a", "v")), asked(1, 20, batch("w", "b", "c")), to(api.LThaw, 2, 5), to(api.LFreeze, 2, 6), in(sp("c", ""), to(api.LSplit, 1, 3, 11, 12)), to(api.LDrop, 2, 6)}, pushes(stock(2, 6, sp("m", ""))))
	for keep := -1; ; keep++ {
		n, m := both(t, 1, pair())
		for _, l := range loose {
			take(t, n, m, l)
		}
		size := n.Loose()
		crash(t, n, m, keep)
		for _, l := range loose { // they come again, and what goes on the disk behind what was torn stays
			take(t, n, m, l)
		}
		synced(t, n, m, "keep ", keep)
		crash(t, n, m, 0)
		if keep > size {
			return
		}
	}
}

// some: a letter that may do something as the node is by now.
func some(dice *rand.Rand, m *model, number *int, images []api.Shard) []api.Letter {
	all := m.h.Shards()
	if len(all) == 0 || dice.IntN(12) == 0 {
		if len(images) == 0 {
			return []api.Letter{poll(sp("", ""), []int{1, 8, 2})}
		}
		return pushes(images[dice.IntN(len(images))])
	}
	s, o := all[dice.IntN(len(all))], all[dice.IntN(len(all))]
	key := string(rune('a' + dice.IntN(26)))
	l := to([]int{api.LFreeze, api.LPull, api.LThaw, api.LDrop, api.LInstall}[dice.IntN(5)], s.ID, s.Epoch, dice.IntN(4))
	*number++
	switch dice.IntN(8) {
	case 0, 1, 2:
		op := []api.Op{put(key, fmt.Sprint(*number)), get(key), {Kind: api.ODel, Key: key}, batch("b", key, key+"x"), between(key, ""), {Kind: api.OCompact, Key: key, Version: dice.IntN(9)}}[dice.IntN(6)]
		l = asked(dice.IntN(3), max(1, *number-dice.IntN(3)), op)
	case 3:
		l = poll(sp(key, ""), []int{1, dice.IntN(10), 2}, api.Seen{Key: key, Version: dice.IntN(5) + 1})
	case 4:
		l = in(sp(key, ""), to(api.LSplit, s.ID, s.Epoch, *number+100, *number+1100))
	case 5:
		l = to(api.LJoin, s.ID, s.Epoch, o.ID, o.Epoch, *number+2100)
	}
	return []api.Letter{l}
}

// P19.1, P19.2: long rows of letters as the node is by then, with crashes, syncs and trims between.
func TestGoesOn(t *testing.T) {
	for seed := range uint64(30) {
		dice := rand.New(rand.NewPCG(seed, 19))
		list := starts()
		n, m := both(t, 1, list[seed%uint64(len(list))])
		var images []api.Shard
		number := 0
		for range 150 {
			switch x := dice.IntN(20); x {
			case 0:
				crash(t, n, m, dice.IntN(n.Loose()+2)-1)
			case 1:
				trim(t, n, m)
			case 2, 3:
				synced(t, n, m, "seed ", seed)
			default:
				for _, l := range some(dice, m, &number, images) {
					take(t, n, m, l)
				}
			}
			for _, s := range m.h.Shards() {
				if s.Frozen && len(images) < 9 {
					images = append(images, s)
				}
			}
		}
		synced(t, n, m, "seed ", seed)
	}
}

// P19.3: whatever was answered is there behind any crash: asked once more it is answered likewise, and no version comes twice.
func TestStays(t *testing.T) {
	for seed := range uint64(40) {
		dice := rand.New(rand.NewPCG(seed, 193))
		n := node.New(1, shards{shard.New(1, 1, all)})
		told, last := map[string]map[int]string{}, [3]api.Letter{}
		ids, asks := [3]int{}, map[[2]int]api.Op{}
		for step := range 200 {
			switch who := dice.IntN(3); dice.IntN(8) {
			case 0:
				n.Crash(dice.IntN(n.Loose() + 1))
				for session, a := range last {
					if a.Kind == 0 || a.N[0] < ids[session] {
						continue
					}
					n.Take(asked(session, a.N[0], asks[[2]int{session, a.N[0]}]))
					if again := n.Sync(); len(again) != 1 || !letter.Same(again[0], a) {
						t.Fatalf("P19.3: seed %d: %+v, then %+v", seed, a, again)
					}
				}
			case 1:
				n.Trim()
			case 2:
				for _, a := range n.Sync() {
					session := a.To - api.Sessions
					key := asks[[2]int{session, a.N[0]}]
					was := told[key.Key]
					if was == nil {
						was = map[int]string{}
						told[key.Key] = was
					}
					if value, there := was[a.Answer.Version]; there && value != key.Value {
						t.Fatalf("P19.3: seed %d: version %d of %s is %s and %s", seed, a.Answer.Version, key.Key, value, key.Value)
					}
					was[a.Answer.Version] = key.Value
					if a.N[0] >= last[session].N[0] {
						last[session] = a
					}
				}
			default:
				ids[who]++
				o := put(string(rune('a'+dice.IntN(3))), fmt.Sprint(who, "-", step))
				asks[[2]int{who, ids[who]}] = o
				n.Take(asked(who, ids[who], o))
			}
		}
	}
}

// P19.3: what the mover was told stays, too.
func TestTheMoverWasTold(t *testing.T) {
	n := node.New(1, pair())
	goes := func(want int, letters ...api.Letter) {
		t.Helper()
		for _, l := range letters {
			n.Take(l)
		}
		got := n.Sync()
		if n.Crash(math.MaxInt); len(got) == 0 || got[len(got)-1].Kind != want {
			t.Errorf("P19.3: %+v, not %d", got, want)
		}
	}
	if goes(api.LFrozen, to(api.LFreeze, 1, 3)); len(n.Hold().Shards()) != 2 {
		t.Error("P19.3: frozen: ", say(n.Hold()))
	}
	if s, _ := n.Hold().Get(1); !s.Frozen {
		t.Error("P19.3: it isn't frozen any more")
	}
	if goes(api.LDropped, to(api.LDrop, 1, 3)); n.Hold().Gone(1) != 3 || len(n.Hold().Shards()) != 1 {
		t.Error("P19.3: dropped: ", say(n.Hold()))
	}
	if goes(api.LInstalled, pushes(stock(1, 3, sp("", "m")))...); n.Hold().Gone(1) != 3 || len(n.Hold().Shards()) != 2 {
		t.Error("P19.3: installed: ", say(n.Hold()))
	}
	if goes(api.LInstalled, pushes(stock(1, 2, sp("", "m")))...); len(n.Hold().Shards()) != 2 {
		t.Error("P19.3: an old one: ", say(n.Hold()))
	}
	if goes(api.LThawed, to(api.LThaw, 2, 5)); len(n.Hold().Shards()) != 2 {
		t.Error("P19.3: thawed: ", say(n.Hold()))
	}
	if goes(api.LCut, to(api.LJoin, 1, 4, 2, 6, 3)); n.Hold().Gone(2) != 6 || len(n.Hold().Shards()) != 1 {
		t.Error("P19.3: joined: ", say(n.Hold()))
	}
	if goes(api.LCut, in(sp("c", ""), to(api.LSplit, 3, 1, 4, 5))); n.Hold().Gone(3) != 1 || len(n.Hold().Shards()) != 2 {
		t.Error("P19.3: split: ", say(n.Hold()))
	}
}

// moved: a shard from one node to another one, by letters, each of which comes twice; what the new one answers.
func moved(t *testing.T, a, b *node.Node, id, epoch int) {
	t.Helper()
	ask := func(n *node.Node, l api.Letter) api.Letter {
		t.Helper()
		n.Take(l)
		n.Take(l)
		got := n.Sync()
		if len(got) != 2 || !letter.Same(got[0], got[1]) {
			t.Fatalf("P19.2: %+v: %+v", l, got)
		}
		return got[0]
	}
	toA := func(kind int, n ...int) api.Letter {
		l := to(kind, n...)
		l.To = 0
		return l
	}
	pieces := ask(a, toA(api.LFreeze, id, epoch)).N[2]
	for i := range pieces {
		piece := ask(a, toA(api.LPull, id, epoch, i))
		ask(b, with(piece.Data, to(api.LPush, id, epoch+1, i)))
	}
	if got := ask(b, to(api.LInstall, id, epoch+1, pieces)); got.N[2] != 0 {
		t.Fatalf("P19.2: %d pieces: %+v", pieces, got)
	}
	ask(a, toA(api.LDrop, id, epoch))
}

// P19.2: what is moved is what was there; its old node tells that it isn't there, and takes no old one back.
func TestMoved(t *testing.T) {
	for _, s := range []api.Shard{shard.New(1, 1, all), stock(1, 4, all), big(1, 100)} {
		a, b := node.New(0, shards{s}), node.New(1, nil)
		moved(t, a, b, 1, s.Epoch)
		got, there := b.Hold().Get(1)
		want := s
		want.Epoch++
		if !there || !shard.Same(got, want) || len(a.Hold().Shards()) != 0 || a.Hold().Gone(1) != s.Epoch {
			t.Errorf("P19.2: %s, %s", say(a.Hold()), say(b.Hold()))
		}
		l := asked(1, 70, put("a", "late"))
		l.To = 0
		a.Take(l)
		b.Take(asked(1, 70, put("a", "late")))
		if x, y := a.Sync(), b.Sync(); len(x) != 1 || x[0].Answer.Code != int(api.ErrMoved) || len(y) != 1 || op.SameAnswer(x[0].Answer, y[0].Answer) {
			t.Errorf("P19.2: %+v, %+v", x, y)
		}
		for _, old := range pushes(s) {
			old.To, old.N[1] = 0, s.Epoch
			a.Take(old)
		}
		if len(a.Hold().Shards()) != 0 {
			t.Errorf("P19.2: an old one comes back: %s", say(a.Hold()))
		}
	}
}
