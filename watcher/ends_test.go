package watcher_test

import (
	"fmt"
	"math/rand"
	"slices"
	"testing"

	"estuary/api"
	"estuary/letter"
	"estuary/mover"
	"estuary/node"
	"estuary/shard"
	"estuary/span"
	"estuary/token"
	"estuary/watcher"
)

// bay: watchers, nodes that tell them, a mover, and letters under way.
type bay struct {
	t        *testing.T
	m        *mover.State
	nodes    []*node.Node
	watchers []*watcher.Watcher
	plans    []places       // by session: the one that it knows
	far      map[string]int // by session, watch and key: the last Version that was told, or that the token has
	facts    map[string]api.Event
	sent     letters
	id       int // of the last request
	most     int // so many requests
	compacts bool
	told     int
	over     int
}

func newBay(t *testing.T) *bay {
	b := &bay{t: t, m: mover.New(), plans: make([]places, api.MaxSessions), far: map[string]int{}, facts: map[string]api.Event{}, most: 1000}
	b.nodes = append(b.nodes, node.New(0, []api.Shard{shard.New(1, 1, sp("", ""))}), node.New(1, nil), node.New(2, nil))
	for i := range api.MaxSessions {
		b.watchers = append(b.watchers, watcher.New(i))
	}
	return b
}

func (b *bay) send(l ...api.Letter) {
	b.t.Helper()
	for _, x := range l {
		if !letter.Is(x) {
			b.t.Fatalf("P24.1: ill-formed: %+v", x)
		}
	}
	b.sent = append(b.sent, l...)
	if more := len(b.sent) - api.MaxLetters; more > 0 {
		b.sent = b.sent[more:]
	}
}

// fact: of each Version of a key there is one event alone.
func (b *bay) fact(e api.Event) {
	b.t.Helper()
	name := fmt.Sprint(e.Key, " ", e.Version)
	if was, there := b.facts[name]; there && was != e {
		b.t.Fatalf("P24.3: two of one Version: %+v, %+v", was, e)
	}
	b.facts[name] = e
}

// shards: all that there are, frozen ones too.
func (b *bay) shards() []api.Shard {
	var l []api.Shard
	for _, n := range b.nodes {
		l = append(l, n.Hold().Shards()...)
	}
	return l
}

func (b *bay) sync(i int) {
	b.t.Helper()
	b.send(b.nodes[i].Sync()...)
	for _, s := range b.nodes[i].Hold().Shards() {
		for _, e := range s.Events {
			b.fact(e)
		}
		for _, c := range s.Cells {
			b.fact(api.Event{Key: c.Key, Version: c.Version, Value: c.Value, Del: c.Del})
		}
	}
}

func farName(session, n int, key string) string { return fmt.Sprint(session, " ", n, " ", key) }

// watch: from nothing, or from where another one is.
func (b *bay) watch(dice *rand.Rand) {
	b.t.Helper()
	session := dice.Intn(api.MaxSessions)
	s := []api.Span{sp("", ""), sp("k3", "k6"), sp("", "k5"), sp("k4", "")}[dice.Intn(4)]
	var l seens
	if x, ok := b.watchers[dice.Intn(api.MaxSessions)].Get(dice.Intn(api.MaxWatches)); ok && dice.Intn(3) > 0 {
		l = token.In(x.Seen, s)
	}
	n, err := b.watchers[session].Watch(s, l)
	if err != nil {
		return
	}
	for _, y := range l {
		b.far[farName(session, n, y.Key)] = y.Version
	}
}

// isNews: P24.2, P24.3: of each key the very next Version; and that is what it was.
func (b *bay) isNews(session, n int, told events) {
	b.t.Helper()
	x, _ := b.watchers[session].Get(n)
	for _, e := range told {
		name := farName(session, n, e.Key)
		if e.Version != b.far[name]+1 || !span.Has(x.Span, e.Key) {
			b.t.Fatalf("P24.3: told of %q behind %d: %+v", x.Span, b.far[name], e)
		}
		b.far[name] = e.Version
		b.fact(e)
	}
	for _, y := range x.Seen {
		if y.Version != b.far[farName(session, n, y.Key)] {
			b.t.Fatalf("P24.2: seen: %+v, told up to %d", y, b.far[farName(session, n, y.Key)])
		}
	}
	b.told += len(told)
}

// mustBeOver: somewhere is a cell whose next event there isn't any more.
func (b *bay) mustBeOver(x api.Watch) {
	b.t.Helper()
	b.over++
	for _, s := range b.shards() {
		for _, c := range s.Cells {
			if span.Has(x.Span, c.Key) && c.Floor > token.Of(x.Seen, c.Key) {
				return
			}
		}
	}
	b.t.Fatalf("P24.2: compacted, but it needn't be: %+v", x)
}

func (b *bay) wantPlan(session int) {
	b.send(api.Letter{Kind: api.LMap, From: api.Sessions + session, To: api.Mover})
}

// come: the i-th letter is taken by whom it is to.
func (b *bay) come(i int) {
	b.t.Helper()
	l := b.sent[i]
	b.sent = slices.Delete(b.sent, i, i+1)
	session := l.To - api.Sessions
	switch {
	case l.To == api.Mover:
		b.send(b.m.Take(l)...)
	case l.To < api.MaxNodes:
		b.nodes[l.To].Take(l)
	case l.Kind == api.LPlan:
		b.plans[session] = l.Places
	default:
		was, _ := b.watchers[session].Get(l.N[0])
		told, old := b.watchers[session].Take(l)
		x, _ := b.watchers[session].Get(l.N[0])
		b.isNews(session, l.N[0], told)
		if old {
			b.wantPlan(session)
		}
		if was.Over == 0 && x.Over == 1 {
			b.mustBeOver(x)
		}
	}
}

func (b *bay) poll(session, n, credit int) {
	b.t.Helper()
	said, err := b.watchers[session].Poll(n, credit, b.plans[session])
	if err == nil && len(said) == 0 {
		b.wantPlan(session)
	}
	b.send(said...)
}

// write: it comes to the node at once, as what is under test are the feeds.
func (b *bay) write(dice *rand.Rand) {
	if b.id >= b.most {
		return
	}
	key := fmt.Sprint("k", dice.Intn(10))
	o := api.Op{Kind: api.OPut, Key: key, Value: fmt.Sprint("v", b.id)}
	switch dice.Intn(12) {
	case 0, 1:
		o = api.Op{Kind: api.ODel, Key: key}
	case 2:
		o = api.Op{Kind: api.OBatch, Writes: []api.Write{{Key: key, Value: "w"}, {Key: key + "k", Value: "x"}}}
	case 3:
		if b.compacts {
			o = api.Op{Kind: api.OCompact, Key: key, Version: dice.Intn(6)}
		}
	}
	b.id++
	for i, n := range b.nodes {
		n.Take(api.Letter{Kind: api.LAsk, From: api.Sessions, To: i, N: [5]int{b.id}, Op: o})
	}
}

// moves: the mover does one of what it can.
func (b *bay) moves(dice *rand.Rand) {
	key := fmt.Sprint("k", dice.Intn(10))
	var said letters
	switch dice.Intn(5) {
	case 0:
		said, _ = b.m.Split(key)
	case 1:
		said, _ = b.m.Join(key)
	case 2:
		said, _ = b.m.Abort()
	default:
		said, _ = b.m.Move(key, dice.Intn(api.MaxNodes))
	}
	b.send(said...)
}

// act: what may happen.
func (b *bay) act(dice *rand.Rand) {
	i := dice.Intn(len(b.sent) + 1)
	there := i < len(b.sent)
	n := dice.Intn(api.MaxNodes)
	switch what := dice.Intn(40); {
	case what < 12 && there:
		b.come(i)
	case what < 16 && there:
		b.come(0)
	case what < 17 && there:
		b.sent = slices.Delete(b.sent, i, i+1)
	case what < 19 && there:
		b.send(b.sent[i])
	case what < 23:
		b.sync(n)
	case what < 26:
		b.send(b.m.Tick()...)
	case what < 27:
		b.nodes[n].Crash(dice.Intn(b.nodes[n].Loose() + 1))
	case what < 28:
		b.nodes[n].Trim()
	case what < 30:
		b.moves(dice)
	case what < 31:
		b.watch(dice)
	case what < 32:
		b.write(dice)
	default:
		b.poll(dice.Intn(api.MaxSessions), dice.Intn(api.MaxWatches), dice.Intn(12)-1)
	}
}

// calm: nothing is lost, and all go on.
func (b *bay) calm() {
	b.t.Helper()
	for i := range b.nodes {
		b.sync(i)
	}
	for session, w := range b.watchers {
		for n := range w.Len() {
			if x, _ := w.Get(n); x.Over == 0 {
				b.poll(session, n, api.MaxCredit)
			}
		}
	}
	for range len(b.sent) {
		b.come(0)
	}
	b.send(b.m.Tick()...)
}

// hasSeenAll: each watch that isn't over has the last Version of each key; how many these are.
func (b *bay) hasSeenAll() int {
	b.t.Helper()
	many := 0
	for session, w := range b.watchers {
		for n := range w.Len() {
			x, _ := w.Get(n)
			if x.Over != 0 {
				continue
			}
			many++
			for _, s := range b.shards() {
				for _, c := range s.Cells {
					if span.Has(x.Span, c.Key) && token.Of(x.Seen, c.Key) != c.Version {
						b.t.Fatalf("P24.3: session %d: %+v hasn't seen %+v", session, x, c)
					}
				}
			}
		}
	}
	return many
}

// P24.2, P24.3: whatever the network does, and whatever is split, joined and moved beneath, a watch is told the Versions of each key one by one; where all is calm it has seen all, or is compacted.
func TestEnds(t *testing.T) {
	told, over, on := 0, 0, 0
	for seed := range 60 {
		dice := rand.New(rand.NewSource(int64(seed)))
		b := newBay(t)
		b.compacts = seed%3 == 0
		for range 2000 {
			b.act(dice)
		}
		for range 200 {
			b.calm()
		}
		if b.m.Job().Phase != api.MIdle {
			t.Fatalf("seed %d: a job is under way still: %+v", seed, b.m.Job())
		}
		on += b.hasSeenAll()
		told, over = told+b.told, over+b.over
	}
	if told < 5000 || over < 50 || on < 50 {
		t.Errorf("only %d were told, %d compacted, %d go on: that shows nothing", told, over, on)
	}
}

// P24.2, P24.3: where no more is written than history has, no watch is compacted, and each one sees all.
func TestNoGap(t *testing.T) {
	told := 0
	for seed := range 60 {
		dice := rand.New(rand.NewSource(int64(seed)))
		b := newBay(t)
		b.most = api.MaxHistory / 2 // a batch makes two events
		for range 1500 {
			b.act(dice)
		}
		for range 200 {
			b.calm()
		}
		watches := 0
		for _, w := range b.watchers {
			watches += w.Len()
		}
		if on := b.hasSeenAll(); b.over != 0 || on != watches {
			t.Fatalf("P24.3: seed %d: %d of %d watches go on, %d are compacted", seed, on, watches, b.over)
		}
		told += b.told
	}
	if told < 1000 {
		t.Errorf("only %d were told: that shows nothing", told)
	}
}

// P24.3: a watch that goes on by the token of one that is over is told what comes behind it.
func TestGoesOn(t *testing.T) {
	b := newBay(t)
	put := func(version int) {
		b.id++
		b.nodes[0].Take(api.Letter{Kind: api.LAsk, From: api.Sessions, To: 0, N: [5]int{b.id}, Op: api.Op{Kind: api.OPut, Key: "k", Value: fmt.Sprint(version)}})
	}
	var l seens
	for round := range 9 {
		w := watcher.New(0)
		b.watchers[0] = w
		if n, err := w.Watch(sp("", ""), l); n != 0 || err != nil {
			t.Fatalf("P24.1: %d, %v", n, err)
		}
		b.far[farName(0, 0, "k")] = token.Of(l, "k")
		for i := range 20 {
			put(20*round + i + 1)
		}
		for range 9 {
			b.calm()
		}
		w.Cancel(0)
		x, _ := w.Get(0)
		if l = x.Seen; x.Tells != 20 || token.Of(l, "k") != 20*round+20 || x.Over != 2 {
			t.Fatalf("P24.3: round %d: %+v", round, x)
		}
	}
}
