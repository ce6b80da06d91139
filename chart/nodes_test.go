package chart_test

import (
	"math/rand"
	"testing"

	"estuary/api"
	"estuary/chart"
	"estuary/letter"
	"estuary/mover"
	"estuary/node"
	"estuary/shard"
)

// harbour: a mover and nodes, none of whose letters are lost.
type harbour struct {
	t     *testing.T
	m     *mover.State
	nodes []*node.Node
}

func newHarbour(t *testing.T) *harbour {
	h := &harbour{t: t, m: mover.New(), nodes: []*node.Node{node.New(0, []api.Shard{shard.New(1, 1, sp("", ""))})}}
	for i := 1; i < api.MaxNodes; i++ {
		h.nodes = append(h.nodes, node.New(i, nil))
	}
	return h
}

// carry: what the mover says is answered, up to the end of its job.
func (h *harbour) carry(said []api.Letter, err error) {
	for err == nil && len(said) > 0 {
		var next []api.Letter
		for _, l := range said {
			for _, back := range h.ask(l) {
				next = append(next, h.m.Take(back)...)
			}
		}
		said = next
	}
	if h.m.Job() != (api.Job{}) {
		h.t.Fatalf("P22.2: a job that didn't end: %+v", h.m.Job())
	}
}

// ask: what the node says of it.
func (h *harbour) ask(l api.Letter) []api.Letter {
	h.t.Helper()
	if !letter.Is(l) {
		h.t.Fatalf("P22.2: ill-formed: %+v", l)
	}
	h.nodes[l.To].Take(l)
	return h.nodes[l.To].Sync()
}

// puts: asked by Node, each is done, and never told to be elsewhere.
func (h *harbour) puts(l places, id int) {
	h.t.Helper()
	for _, k := range keys() {
		to, ok := chart.Node(l, k)
		if ok != isKey(k) {
			h.t.Fatalf("P22.2: Node of %q: %v", k, ok)
		}
		if !ok {
			continue
		}
		back := h.ask(api.Letter{Kind: api.LAsk, From: api.Sessions, To: to, N: [5]int{id}, Op: api.Op{Kind: api.OPut, Key: k, Value: "v"}})
		if len(back) != 1 || back[0].Kind != api.LAnswer || back[0].Answer.Code != 0 {
			h.t.Fatalf("P22.2: %q asked of node %d: %+v", k, to, back)
		}
		id++
	}
}

// polls: asked by Parts, each node speaks for all that it was asked for; how many parts.
func (h *harbour) polls(l places, s api.Span) int {
	h.t.Helper()
	parts := chart.Parts(l, s)
	for _, p := range parts {
		back := h.ask(api.Letter{Kind: api.LPoll, From: api.Sessions, To: p.Node, N: [5]int{0, api.MaxCredit}, Span: p.Span})
		if len(back) != 1 || back[0].Kind != api.LFeed || back[0].N[3] == 2 || back[0].N[4] != 0 || back[0].Span != p.Span {
			h.t.Fatalf("P22.2: %#v asked of node %d: %+v", p.Span, p.Node, back)
		}
		if x, there := h.nodes[p.Node].Hold().Get(p.ID); !there || x.Epoch != p.Epoch || x.Frozen {
			h.t.Fatalf("P22.2: node %d hasn't shard %d of Epoch %d: %+v", p.Node, p.ID, p.Epoch, x)
		}
	}
	return len(parts)
}

// P22.2: by real nodes, whose shards are split, joined and moved: whom the mover's plan names has what is asked.
func TestNodesAnswer(t *testing.T) {
	cuts := []string{"b", "b\x00", "d", longest, "m", "x", "\xff", lastKey}
	most := 0
	for seed := range 6 {
		dice := rand.New(rand.NewSource(int64(seed)))
		h := newHarbour(t)
		for step := range 40 {
			key := cuts[dice.Intn(len(cuts))]
			switch dice.Intn(6) {
			case 0:
				h.carry(h.m.Join(key))
			case 1, 2:
				h.carry(h.m.Split(key))
			default:
				h.carry(h.m.Move(key, dice.Intn(api.MaxNodes)))
			}
			l := h.m.Plan()
			h.puts(l, 1+step*len(keys()))
			for _, s := range spans() {
				most = max(most, h.polls(l, s))
			}
			for i := range h.nodes {
				if err := h.nodes[i].Trim(); err != nil {
					t.Fatal(err)
				}
			}
		}
	}
	if most < 4 {
		t.Errorf("P22.2: %d parts at most: too few to tell much", most)
	}
}

// P22.2: an old plan names a node that has it no longer, which says so: a new one is then to be asked for.
func TestOldPlan(t *testing.T) {
	h := newHarbour(t)
	h.carry(h.m.Split("m"))
	old := h.m.Plan()
	h.carry(h.m.Move("m", 2))
	to, _ := chart.Node(old, "x")
	back := h.ask(api.Letter{Kind: api.LAsk, From: api.Sessions, To: to, N: [5]int{1}, Op: api.Op{Kind: api.OGet, Key: "x"}})
	if to != 0 || len(back) != 1 || back[0].Answer.Code != int(api.ErrMoved) {
		t.Errorf("P22.2: by an old plan, node %d: %+v", to, back)
	}
	if to, ok := chart.Node(h.m.Plan(), "x"); to != 2 || !ok {
		t.Errorf("P22.2: by the new one: %d, %v", to, ok)
	}
	parts := chart.Parts(h.m.Plan(), sp("g", "x"))
	if len(parts) != 2 || parts[0].Node != 0 || parts[1].Node != 2 || parts[1].Epoch != 2 {
		t.Errorf("P22.2: its parts: %#v", parts)
	}
}
