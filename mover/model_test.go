package mover_test

import (
	"errors"
	"fmt"
	"slices"
	"strings"
	"testing"

	"estuary/api"
	"estuary/fault"
	"estuary/letter"
	"estuary/mover"
	"estuary/plan"
)

type letters = []api.Letter

type places = []api.Place

var (
	longest = strings.Repeat("k", api.MaxKey)
	tooLong = strings.Repeat("k", api.MaxKey+1)
)

func at(id, epoch, node int, from, to string) api.Place {
	return api.Place{ID: id, Epoch: epoch, Node: node, Span: api.Span{From: from, To: to}}
}

// to: a letter from the mover.
func to(kind, node int, n ...int) api.Letter {
	l := api.Letter{Kind: kind, From: 100, To: node}
	copy(l.N[:], n)
	return l
}

// back: a letter to the mover.
func back(kind, from int, n ...int) api.Letter {
	l := to(kind, 100, n...)
	l.From = from
	return l
}

func with(data string, l api.Letter) api.Letter {
	l.Data = data
	return l
}

func in(from string, l api.Letter) api.Letter {
	l.Span.From = from
	return l
}

// stage: what a job is at: what it says, the answer that it waits for (-1: any number), and what comes then.
type stage struct {
	job  api.Job
	says api.Letter
	kind int
	n    [4]int
	then func(l api.Letter) *stage // nil: no job; itself: nothing
}

// model: the document's words once more, in another way than the program's: each stage says which one comes behind it.
type model struct {
	l     places
	now   *stage
	fresh int
	since int
}

func newModel() *model { return &model{l: places{at(1, 1, 0, "", "")}, fresh: 2} }

func (m *model) number() int {
	m.fresh++
	return m.fresh - 1
}

// has: the one place with the key.
func (m *model) has(key string) (int, bool) {
	for i, p := range m.l {
		if len(key) > 0 && len(key) < 9 && key >= p.Span.From && (p.Span.To == "" || key < p.Span.To) {
			return i, true
		}
	}
	return 0, false
}

// begins: s is what it is at from now on.
func (m *model) begins(s *stage) letters {
	m.now, m.since = s, 0
	if s == nil {
		return nil
	}
	return letters{s.says}
}

func (m *model) move(key string, node int) (letters, api.Errno) {
	i, there := m.has(key)
	if m.now != nil {
		return nil, api.ErrBusy
	}
	if node != 0 && node != 1 && node != 2 {
		return nil, api.ErrPlace
	}
	if !there || m.l[i].Node == node {
		return nil, api.ErrNone
	}
	p := m.l[i]
	return m.begins(m.freeze(api.Job{Shard: p.ID, Epoch: p.Epoch, From: p.Node, To: node})), 0
}

func (m *model) split(key string) (letters, api.Errno) {
	i, there := m.has(key)
	if m.now != nil {
		return nil, api.ErrBusy
	}
	if !there {
		return nil, api.ErrNone
	}
	p := m.l[i]
	if p.Span.From == key {
		return nil, api.ErrOrder
	}
	if len(m.l) == 8 {
		return nil, api.ErrFull
	}
	a := m.number()
	b := m.number()
	s := &stage{job: api.Job{Phase: api.MCut, Shard: p.ID, Epoch: p.Epoch, From: p.Node, To: p.Node, Key: key, A: a, B: b}, says: in(key, to(api.LSplit, p.Node, p.ID, p.Epoch, a, b)), kind: api.LCut, n: [4]int{p.ID, p.Epoch, -1, a}}
	s.then = func(l api.Letter) *stage {
		if l.N[2] == 0 {
			m.l = slices.Replace(slices.Clone(m.l), i, i+1, at(a, 1, p.Node, p.Span.From, key), at(b, 1, p.Node, key, p.Span.To))
		}
		return nil
	}
	return m.begins(s), 0
}

func (m *model) join(key string) (letters, api.Errno) {
	i, there := m.has(key)
	if m.now != nil {
		return nil, api.ErrBusy
	}
	if !there || i == len(m.l)-1 {
		return nil, api.ErrNone
	}
	p, q := m.l[i], m.l[i+1]
	if p.Node != q.Node {
		return nil, api.ErrOrder
	}
	a := m.number()
	s := &stage{job: api.Job{Phase: api.MCut, Shard: p.ID, Epoch: p.Epoch, From: p.Node, To: p.Node, Other: q.ID, OtherEpoch: q.Epoch, A: a}, says: to(api.LJoin, p.Node, p.ID, p.Epoch, q.ID, q.Epoch, a), kind: api.LCut, n: [4]int{p.ID, p.Epoch, -1, a}}
	s.then = func(l api.Letter) *stage {
		if l.N[2] == 0 {
			m.l = slices.Replace(slices.Clone(m.l), i, i+2, at(a, 1, p.Node, p.Span.From, q.Span.To))
		}
		return nil
	}
	return m.begins(s), 0
}

func (m *model) abort() (letters, api.Errno) {
	if m.now == nil {
		return nil, api.ErrNone
	}
	j := m.now.job
	if j.Phase != api.MFreeze && j.Phase != api.MPull {
		return nil, api.ErrBusy
	}
	return m.begins(m.thaw(j)), 0
}

// goes: the shard of j has another epoch, another node.
func (m *model) goes(j api.Job, node int) {
	m.l = slices.Clone(m.l)
	for i, p := range m.l {
		if p.ID == j.Shard {
			m.l[i].Epoch, m.l[i].Node = j.Epoch+1, node
		}
	}
}

func (m *model) freeze(j api.Job) *stage {
	j.Phase = api.MFreeze
	s := &stage{job: j, says: to(api.LFreeze, j.From, j.Shard, j.Epoch), kind: api.LFrozen, n: [4]int{j.Shard, j.Epoch, -1, -1}}
	s.then = func(l api.Letter) *stage {
		if l.N[2] <= 0 {
			return s
		}
		j.Pieces = l.N[2]
		return m.pull(j, 0, nil)
	}
	return s
}

func (m *model) pull(j api.Job, piece int, came []string) *stage {
	j.Phase, j.Piece = api.MPull, piece
	return &stage{job: j, says: to(api.LPull, j.From, j.Shard, j.Epoch, piece), kind: api.LPiece, n: [4]int{j.Shard, j.Epoch, piece, -1}, then: func(l api.Letter) *stage {
		more := append(came[:len(came):len(came)], l.Data)
		if len(more) == j.Pieces {
			return m.push(j, 0, more)
		}
		return m.pull(j, piece+1, more)
	}}
}

func (m *model) push(j api.Job, piece int, came []string) *stage {
	j.Phase, j.Piece = api.MPush, piece
	return &stage{job: j, says: with(came[piece], to(api.LPush, j.To, j.Shard, j.Epoch+1, piece)), kind: api.LPushed, n: [4]int{j.Shard, j.Epoch + 1, piece, -1}, then: func(api.Letter) *stage {
		if piece == j.Pieces-1 {
			return m.install(j, came)
		}
		return m.push(j, piece+1, came)
	}}
}

func (m *model) install(j api.Job, came []string) *stage {
	j.Phase, j.Piece = api.MInstall, 0
	return &stage{job: j, says: to(api.LInstall, j.To, j.Shard, j.Epoch+1, j.Pieces), kind: api.LInstalled, n: [4]int{j.Shard, j.Epoch + 1, -1, -1}, then: func(l api.Letter) *stage {
		if l.N[2] != 0 {
			return m.push(j, 0, came)
		}
		m.goes(j, j.To)
		return m.drop(j)
	}}
}

func (m *model) drop(j api.Job) *stage {
	j.Phase = api.MDrop
	return &stage{job: j, says: to(api.LDrop, j.From, j.Shard, j.Epoch), kind: api.LDropped, n: [4]int{j.Shard, j.Epoch, -1, -1}, then: func(api.Letter) *stage { return nil }}
}

func (m *model) thaw(j api.Job) *stage {
	j.Phase, j.Piece = api.MThaw, 0
	return &stage{job: j, says: to(api.LThaw, j.From, j.Shard, j.Epoch), kind: api.LThawed, n: [4]int{j.Shard, j.Epoch, -1, -1}, then: func(api.Letter) *stage {
		m.goes(j, j.From)
		return nil
	}}
}

func (m *model) take(l api.Letter) letters {
	if l.To != 100 {
		return nil
	}
	if l.Kind == api.LMap && l.From >= 200 && l.From <= 202 {
		return letters{{Kind: api.LPlan, From: 100, To: l.From, Places: slices.Clone(m.l)}}
	}
	s := m.now
	if s == nil || l.Kind != s.kind || l.From != s.says.To {
		return nil
	}
	for i, n := range s.n {
		if n != -1 && l.N[i] != n {
			return nil
		}
	}
	next := s.then(l)
	if next == s {
		return nil
	}
	return m.begins(next)
}

func (m *model) tick() letters {
	if m.now == nil {
		return nil
	}
	m.since++
	if m.since%5 != 0 {
		return nil
	}
	return letters{m.now.says}
}

// job: zero of none.
func (m *model) job() api.Job {
	if m.now == nil {
		return api.Job{}
	}
	return m.now.job
}

// answer: to what is said, as who has it done answers it.
func (m *model) answer(n int) api.Letter {
	s := m.now
	l := back(s.kind, s.says.To)
	for i := range s.n {
		l.N[i] = max(s.n[i], 0)
	}
	switch s.kind {
	case api.LFrozen, api.LInstalled, api.LCut:
		l.N[2] = n
	case api.LPiece:
		l.Data = fmt.Sprint("piece ", l.N[2], " of ", s.job.Shard)
	}
	return l
}

// pair: a mover and its model, to which all is done alike.
type pair struct {
	t *testing.T
	m *mover.State
	w *model
}

func both(t *testing.T) *pair { return &pair{t, mover.New(), newModel()} }

func sameLetters(a, b letters) bool { return slices.EqualFunc(a, b, letter.Same) }

// holds: what was answered is what is wanted, and so is all that one can see.
func (p *pair) holds(what any, got letters, err error, want letters, code api.Errno) {
	p.t.Helper()
	if !sameLetters(got, want) || fault.Code(err) != code || code != 0 && (!errors.Is(err, code) || got != nil) {
		p.t.Fatalf("P21.1, P21.2: %v: %+v, %v; want %+v, %d", what, got, err, want, code)
	}
	for _, l := range got {
		if !letter.Is(l) && len(l.Places) == 0 && len(l.Data) < 256 && l.N[2] < api.MaxRev {
			p.t.Fatalf("P21.1: %v: ill-formed: %+v", what, l)
		}
	}
	if j := p.m.Job(); j != p.w.job() {
		p.t.Fatalf("P21.2: %v: Job: %+v, want %+v", what, j, p.w.job())
	}
	if l := p.m.Plan(); !slices.Equal(l, p.w.l) || !plan.Is(l) {
		p.t.Fatalf("P21.2: %v: Plan: %+v, want %+v", what, l, p.w.l)
	}
}

func (p *pair) move(key string, node int) letters {
	p.t.Helper()
	got, err := p.m.Move(key, node)
	want, code := p.w.move(key, node)
	p.holds(fmt.Sprintf("Move(%q, %d)", key, node), got, err, want, code)
	return got
}

func (p *pair) split(key string) letters {
	p.t.Helper()
	got, err := p.m.Split(key)
	want, code := p.w.split(key)
	p.holds(fmt.Sprintf("Split(%q)", key), got, err, want, code)
	return got
}

func (p *pair) join(key string) letters {
	p.t.Helper()
	got, err := p.m.Join(key)
	want, code := p.w.join(key)
	p.holds(fmt.Sprintf("Join(%q)", key), got, err, want, code)
	return got
}

func (p *pair) abort() letters {
	p.t.Helper()
	got, err := p.m.Abort()
	want, code := p.w.abort()
	p.holds("Abort()", got, err, want, code)
	return got
}

func (p *pair) take(l api.Letter) letters {
	p.t.Helper()
	got := p.m.Take(l)
	p.holds(l, got, nil, p.w.take(l), 0)
	return got
}

func (p *pair) tick() letters {
	p.t.Helper()
	got := p.m.Tick()
	p.holds("Tick()", got, nil, p.w.tick(), 0)
	return got
}

// goOn: it is answered, up to this phase (MIdle: to its end); pieces is how many there are.
func (p *pair) goOn(pieces, phase int) *pair {
	p.t.Helper()
	for range 3*max(pieces, min(p.w.job().Pieces, 1000)) + 9 {
		if p.w.job().Phase == phase {
			return p
		}
		n := 0
		if p.w.job().Phase == api.MFreeze {
			n = pieces
		}
		p.take(p.w.answer(n))
	}
	p.t.Fatalf("P21.3: it doesn't come to phase %d: %+v", phase, p.w.job())
	return nil
}
