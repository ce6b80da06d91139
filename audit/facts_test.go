package audit_test

import (
	"fmt"
	"slices"
	"strings"
	"testing"

	"estuary/api"
	"estuary/audit"
	"estuary/world"
)

// teller: tells a fact by one way; a Del only, if it can.
type teller struct {
	name      string
	dels, all bool // whether it can tell a Del; whether something else than a Del
	tell      func(f *fake, e api.Event)
}

func tellers() []teller {
	calls := func(kind int) func(*fake, api.Event) {
		return func(f *fake, e api.Event) {
			o, a := api.Op{Kind: kind, Key: e.Key, Value: e.Value}, api.Answer{Version: e.Version}
			switch kind {
			case api.OGet:
				o.Value, a.Value = "", e.Value
			case api.OCas:
				o.Version = e.Version - 1
			case api.ORange:
				o, a = between("a", ""), api.Answer{Rows: []api.Row{{Key: e.Key, Value: e.Value, Version: e.Version}}}
			}
			f.call(kind%3, o, 1, 2, a)
		}
	}
	var l []teller
	for i := range api.MaxNodes {
		l = append(l, teller{fmt.Sprint("node's cell ", i), true, true, func(f *fake, e api.Event) { f.add(i, holding(e)) }},
			teller{fmt.Sprint("node's event ", i), true, true, func(f *fake, e api.Event) { f.add(i, telling(e)) }})
	}
	for i := range api.MaxSessions {
		l = append(l, teller{fmt.Sprint("told ", i), true, true, func(f *fake, e api.Event) {
			f.tell(i, f.watch(i, all, seen(e.Key, e.Version-1)), e)
		}})
	}
	return append(l, teller{"frozen one's cell", true, true, func(f *fake, e api.Event) { f.add(2, frozen(holding(e))) }},
		teller{"get", false, true, calls(api.OGet)}, teller{"put", false, true, calls(api.OPut)}, teller{"del", true, false, calls(api.ODel)},
		teller{"cas", false, true, calls(api.OCas)}, teller{"range", false, true, calls(api.ORange)})
}

func (x teller) can(e api.Event) bool { return e.Del && x.dels || !e.Del && x.all }

// P27.1: a new world.
func TestNew(t *testing.T) {
	f := newFake(t)
	f.isFacts("new")
	if !audit.Linear(f.World) || !audit.Feeds(f.World) || !audit.Owners(f.World) || !audit.Kept(f.World) {
		t.Error("P27.2, P27.3: a new world: not all hold")
	}
}

// P27.1 to P27.3: of a World that New didn't make nobody was told anything.
func TestNoWorld(t *testing.T) {
	w := new(world.World)
	if got, ok := audit.Facts(w); !ok || len(got) != 0 {
		t.Errorf("P27.1: no world: %+v, %v", got, ok)
	}
	if !audit.Linear(w) || !audit.Feeds(w) || !audit.Owners(w) || !audit.Kept(w) {
		t.Error("P27.2, P27.3: no world: not all hold")
	}
}

// P27.1: each way to tell a fact, alone.
func TestTellers(t *testing.T) {
	for _, x := range tellers() {
		for _, e := range evs("k1v", "k2-", "k3", "b7vv", "k1", "k12v") {
			if x.can(e) {
				f := newFake(t)
				x.tell(f, e)
				f.isFacts(x.name, e)
			}
		}
	}
}

// P27.1: each two ways: of one fact, of two, and of two that are unlike.
func TestTwoTellers(t *testing.T) {
	pairs := [][2]string{{"k1v", "k1v"}, {"k2", "k2"}, {"k2-", "k2-"}, {"k1v", "k2v"}, {"k1v", "b1v"}, {"k2v", "k10v"}, {"k1v", "kk1v"}, {"k1v", "k1w"}, {"k1v", "k1-"}, {"k1v", "k1"}, {"k1-", "k1"}, {"k10v", "k10vv"}}
	for _, x := range tellers() {
		for _, y := range tellers() {
			for _, p := range pairs {
				for range 2 {
					p[0], p[1] = p[1], p[0]
					a, b := ev(p[0]), ev(p[1])
					if !x.can(a) || !y.can(b) {
						continue
					}
					f := newFake(t)
					x.tell(f, a)
					y.tell(f, b)
					name := fmt.Sprint(x.name, " ", p[0], ", ", y.name, " ", p[1])
					switch {
					case a == b:
						f.isFacts(name, a)
					case a.Key == b.Key && a.Version == b.Version:
						f.isNoFacts(name)
					case a.Key < b.Key, a.Key == b.Key && a.Version < b.Version:
						f.isFacts(name, a, b)
					default:
						f.isFacts(name, b, a)
					}
				}
			}
		}
	}
}

// P27.1: all that a shard has, and of a key that has several events the cell's is the last one.
func TestShards(t *testing.T) {
	f := newFake(t)
	s := holding(evs("a4v", "b3", "c9w", "d2-")...)
	s.Cells[0].Floor, s.Cells[2].Floor = 1, 8
	s.Events = evs("a2x", "c9w", "a3", "a4v")
	f.hold(0, s)
	f.isFacts("a shard", evs("a2x", "a3", "a4v", "b3", "c9w", "d2-")...)
	f.hold(1, frozen(telling(evs("a1v", "a2x", "a3")...)))
	f.isFacts("two shards", evs("a1v", "a2x", "a3", "a4v", "b3", "c9w", "d2-")...)
	f.add(1, holding(evs("b1z", "c10y")...))
	f.isFacts("three shards", evs("a1v", "a2x", "a3", "a4v", "b1z", "b3", "c9w", "c10y", "d2-")...)
	f.add(2, telling(evs("c8v", "c9w", "c10z")...))
	f.isNoFacts("four shards")
}

// P27.1: what is told by a name as long as may be, in order byte by byte; and of a Version as great as may be.
func TestOrder(t *testing.T) {
	f := newFake(t)
	long := strings.Repeat("k", api.MaxKey)
	keys := []string{"k", "\xff", "B", "b", "\x00", long, "ka", "é", long[1:]}
	for i, k := range keys {
		f.call(i%3, put(k, "v"), i, i+1, api.Answer{Version: api.MaxRev - i})
		f.call(i%3, put(k, "v"), i, i+1, api.Answer{Version: i})
		f.call(i%3, put(k, "v"), i, i+1, api.Answer{Version: -i - 1})
	}
	slices.Sort(keys)
	got, ok := audit.Facts(f.World)
	if !ok || len(got) != 3*len(keys) {
		t.Fatalf("P27.1: order: %+v, %v", got, ok)
	}
	for i, e := range got {
		if e.Key != keys[i/3] || i%3 > 0 && e.Version <= got[i-1].Version || e.Value != "v" || e.Del {
			t.Errorf("P27.1: order: %d: %+v", i, e)
		}
	}
}

// P27.1: each is there once, however often it is told; two that are unlike show, wherever they stand among those that are alike.
func TestOften(t *testing.T) {
	f := newFake(t)
	for i := range 30 {
		f.call(i%3, get("k"), i, i+1, api.Answer{Version: 1 + i%4, Value: "v"})
		f.call(i%3, get("b"), i, i+1, api.Answer{Version: 2, Value: "w"})
	}
	f.isFacts("often", evs("b2w", "k1v", "k2v", "k3v", "k4v")...)
	for i := range 30 {
		for version := range 4 {
			f := newFake(t)
			for n := range 30 {
				a := api.Answer{Version: 1 + n%4, Value: "v"}
				if n == i {
					a = api.Answer{Version: 1 + version, Value: "u"}
				}
				f.call(n%3, get("k"), n, n+1, a)
			}
			f.isNoFacts(fmt.Sprint("unlike at ", i))
		}
	}
}

// P27.1: what nobody was told as a key's version.
func TestNoFacts(t *testing.T) {
	codes := []api.Errno{api.ErrForm, api.ErrLarge, api.ErrNone, api.ErrClash, api.ErrSplit, api.ErrSpent, api.ErrGiven, api.ErrFull, 1, -1}
	for _, o := range []api.Op{get("k"), put("k", "v"), del("k"), cas("k", "v", 3)} {
		for _, code := range codes {
			f := newFake(t)
			f.call(1, o, 1, 2, api.Answer{Code: int(code), Version: 4, Value: "v"})
			f.isFacts(fmt.Sprint(o, " of ", code))
		}
	}
	for _, o := range []api.Op{get("k"), put("k", "v"), del("k"), cas("k", "v", 0), between("a", ""), batch("v", "k")} {
		f := newFake(t)
		f.waits(0, o, 1)
		f.isFacts(fmt.Sprint(o, " waits"))
		for range api.MaxRound * api.MaxTries {
			f.Session(0).Tick(7)
		}
		if f.isFacts(fmt.Sprint(o, " is given up")); f.Session(0).Busy() {
			t.Fatal("P27.1: nothing is given up")
		}
	}
	rows := []api.Row{{Key: "k", Value: "v", Version: 2}}
	for _, o := range []api.Op{batch("v", "k"), {Kind: api.OCompact, Key: "k", Version: 1}} {
		f := newFake(t)
		f.call(0, o, 1, 2, api.Answer{Version: 1, Value: "v", Rows: rows})
		f.isFacts(fmt.Sprint(o))
	}
	f := newFake(t)
	f.call(0, put("k", "v"), 1, 2, api.Answer{Version: 4, Value: "u", Rows: rows})
	f.call(0, del("k"), 1, 2, api.Answer{Version: 5, Value: "u", Rows: rows})
	f.call(0, between("a", "b"), 1, 2, api.Answer{Version: 6, Value: "u"})
	f.isFacts("only what the document names", evs("k4v", "k5")...)
	f = newFake(t)
	f.watch(0, all, seen("k", 3))
	f.isFacts("a token")
	f.tell(0, 0, ev("k4v"))
	f.isFacts("a token, and the next one", ev("k4v"))
}

// P27.1: what is under way, or waits at a node, nobody was told yet.
func TestUnderWay(t *testing.T) {
	f := newFake(t)
	l := api.Letter{Kind: api.LFeed, From: 1, To: api.Sessions, Events: evs("k1v")}
	if err := f.Bag().Put(l); err != nil {
		t.Fatal(err)
	}
	f.Node(0).Take(api.Letter{Kind: api.LAsk, From: api.Sessions, N: [5]int{1}, Op: get("k")})
	f.isFacts("under way")
	f.Node(0).Take(api.Letter{Kind: api.LAsk, From: api.Sessions, N: [5]int{2}, Op: put("k", "w")})
	f.isFacts("at a node, not synced", ev("k1w"))
	f.Node(0).Crash(0)
	f.isFacts("gone by a crash")
	f.watch(0, all)
	f.Do(api.Act{Kind: api.ADeliver})
	f.isFacts("it came", ev("k1v"))
}

// P27.1: rows count one by one, whatever the Code: they were told.
func TestRows(t *testing.T) {
	f := newFake(t)
	f.call(2, between("a", ""), 1, 2, api.Answer{Rows: []api.Row{{Key: "k", Value: "v", Version: 2}, {Key: "b", Version: 1}, {Key: "k", Value: "v", Version: 2}}})
	f.isFacts("rows", evs("b1-", "k2v")...)
	f.call(1, between("a", ""), 1, 2, api.Answer{Code: int(api.ErrSplit), Rows: []api.Row{{Key: "c", Value: "w", Version: 9}}})
	f.isFacts("more rows", evs("b1-", "c9w", "k2v")...)
	f.call(0, between("a", ""), 1, 2, api.Answer{Rows: []api.Row{{Key: "b", Value: "w", Version: 1}}})
	f.isNoFacts("rows that are unlike")
}

// P27.1: what is answered is new memory, its spare room too.
func TestNewMemory(t *testing.T) {
	f := newFake(t)
	f.hold(0, telling(evs("k1v", "k2w", "k3x")...))
	f.tell(0, f.watch(0, all), evs("k1v", "k2w")...)
	was := state(f.World)
	for range 3 {
		l, _ := audit.Facts(f.World)
		l = l[:cap(l)]
		for i := range l {
			l[i] = ev("z9z")
		}
	}
	f.isFacts("again", evs("k1v", "k2w", "k3x")...)
	if state(f.World) != was {
		t.Error("P27.4: the world was changed")
	}
}
