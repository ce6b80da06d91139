package world_test

import (
	"fmt"
	"math/rand"
	"slices"
	"testing"

	"estuary/api"
	"estuary/fault"
	"estuary/shard"
	"estuary/span"
	"estuary/token"
	"estuary/world"
)

// judge: looks at a world from its beginning on, by what was asked, answered and told.
type judge struct {
	t      *testing.T
	w      *world.World
	tokens map[[2]int][]api.Seen // of each watch the one that it began with
	judged [api.MaxSessions]int  // so many of what was told
	last   map[[2]int]map[string]int
	facts  map[fact]api.Event // what anyone was told of a version
	over   map[[2]int]bool
}

type fact struct {
	key     string
	version int
}

func newJudge(t *testing.T) *judge {
	return &judge{t: t, w: world.New(), tokens: map[[2]int][]api.Seen{}, last: map[[2]int]map[string]int{}, facts: map[fact]api.Event{}, over: map[[2]int]bool{}}
}

// do: what must hold at each moment.
func (j *judge) do(a api.Act) {
	j.t.Helper()
	was := 0
	if a.Kind == api.AWatch {
		was = j.w.Session(a.Who).Watches()
	}
	err := j.w.Do(a)
	if fault.Code(err) == api.ErrForm {
		j.t.Fatalf("P26.3: %+v: %v", a, err)
	}
	if a.Kind == api.AWatch && err == nil {
		j.tokens[[2]int{a.Who, was}] = slices.Clone(a.Seen)
	}
	j.haveOwners()
	j.areTold()
	j.mustBeOver()
	j.areInBounds()
	if a.Kind == api.ACrash {
		j.areKept()
	}
}

// shards: all of all nodes.
func (j *judge) shards() (all []api.Shard) {
	for i := range api.MaxNodes {
		all = append(all, j.w.Node(i).Hold().Shards()...)
	}
	return all
}

// haveOwners: P40.4: no key has two shards that aren't frozen.
func (j *judge) haveOwners() {
	j.t.Helper()
	all := slices.DeleteFunc(j.shards(), func(s api.Shard) bool { return s.Frozen })
	for i, a := range all {
		for _, b := range all[:i] {
			if both, ok := span.Meet(a.Span, b.Span); ok {
				j.t.Fatalf("P26.3, P40.4: %+v has two owners: %+v, %+v", both, a, b)
			}
		}
	}
}

// areTold: P40.2: of each watch and key the versions one by one, from behind its token; and of one version all are told one event.
func (j *judge) areTold() {
	j.t.Helper()
	for id := range api.MaxSessions {
		all := j.w.Session(id).Told()
		for _, x := range all[j.judged[id]:] {
			name := [2]int{id, x.Watch}
			if j.last[name] == nil {
				j.last[name] = map[string]int{}
				for _, s := range j.tokens[name] {
					j.last[name][s.Key] = s.Version
				}
			}
			watch, ok := j.w.Session(id).Get(x.Watch)
			if !ok || x.Session != id || x.Event.Version != j.last[name][x.Event.Key]+1 || !span.Has(watch.Span, x.Event.Key) {
				j.t.Fatalf("P26.3, P40.2: session %d: told %+v behind %d", id, x, j.last[name][x.Event.Key])
			}
			j.last[name][x.Event.Key] = x.Event.Version
			j.fact(x.Event)
		}
		j.judged[id] = len(all)
	}
}

func (j *judge) fact(e api.Event) {
	j.t.Helper()
	at := fact{e.Key, e.Version}
	if was, there := j.facts[at]; there && was != e {
		j.t.Fatalf("P26.3, P40.1: two of one version: %+v, %+v", was, e)
	}
	j.facts[at] = e
}

// mustBeOver: P40.6: of what was just told that it is compacted history has no longer what comes next.
func (j *judge) mustBeOver() {
	j.t.Helper()
	for id := range api.MaxSessions {
		s := j.w.Session(id)
		for n := range s.Watches() {
			name := [2]int{id, n}
			x, _ := s.Get(n)
			if j.over[name] || x.Over == 0 {
				continue
			}
			if j.over[name] = true; x.Over == 1 && !j.isBehind(x) {
				j.t.Fatalf("P26.3, P40.6: session %d: %+v needn't be over", id, x)
			}
		}
	}
}

func (j *judge) isBehind(x api.Watch) bool {
	for _, s := range j.shards() {
		for _, c := range s.Cells {
			if span.Has(x.Span, c.Key) && c.Floor > token.Of(x.Seen, c.Key) {
				return true
			}
		}
	}
	return false
}

// areInBounds: P40.6: nothing grows beyond its limit.
func (j *judge) areInBounds() {
	j.t.Helper()
	w := j.w
	if w.Bag().Len() > api.MaxLetters || len(w.Mover().Plan()) > api.MaxShards {
		j.t.Fatalf("P26.3, P40.6: %d letters, %d places", w.Bag().Len(), len(w.Mover().Plan()))
	}
	for i := range api.MaxNodes {
		all := w.Node(i).Hold().Shards()
		if w.Node(i).Loose() > api.MaxDisk || len(all) > api.MaxShards {
			j.t.Fatalf("P26.3, P40.6: node %d: %d bytes are loose, %d shards", i, w.Node(i).Loose(), len(all))
		}
		for _, s := range all {
			if !shard.Is(s) {
				j.t.Fatalf("P26.3, P40.6: node %d has %+v", i, s)
			}
		}
	}
}

// changed: the calls that changed one key, and were answered.
func (j *judge) changed() (all []api.Call) {
	for id := range api.MaxSessions {
		for _, c := range j.w.Session(id).Calls() {
			if k := c.Op.Kind; (k == api.OPut || k == api.ODel || k == api.OCas) && c.Answered > 0 && c.Answer.Code == 0 {
				all = append(all, c)
			}
		}
	}
	return all
}

// areKept: P40.3: what was answered is there, or what came behind it.
func (j *judge) areKept() {
	j.t.Helper()
	last := j.cells()
	for _, c := range j.changed() {
		if last[c.Op.Key].Version < c.Answer.Version {
			j.t.Fatalf("P26.3, P40.3: %+v is lost; there is %+v", c, last[c.Op.Key])
		}
	}
}

// cells: by key the last ones.
func (j *judge) cells() map[string]api.Cell {
	last := map[string]api.Cell{}
	for _, s := range j.shards() {
		for _, c := range s.Cells {
			if was, there := last[c.Key]; !there || c.Version >= was.Version {
				last[c.Key] = c
			}
		}
	}
	return last
}

// gather: what was answered, and what all shards have, are facts too.
func (j *judge) gather() {
	j.t.Helper()
	for _, s := range j.shards() {
		for _, e := range s.Events {
			j.fact(e)
		}
		for _, c := range s.Cells {
			j.fact(api.Event{Key: c.Key, Version: c.Version, Value: c.Value, Del: c.Del})
		}
	}
	for id := range api.MaxSessions {
		for _, c := range j.w.Session(id).Calls() {
			if c.Answered == 0 || c.Answer.Code != 0 {
				continue
			}
			e := api.Event{Key: c.Op.Key, Version: c.Answer.Version, Value: c.Op.Value}
			switch c.Op.Kind {
			case api.OGet:
				e.Value = c.Answer.Value
				fallthrough
			case api.OPut, api.OCas:
				j.fact(e)
			case api.ODel:
				e.Del = true
				j.fact(e)
			case api.ORange:
				for _, r := range c.Answer.Rows {
					j.fact(api.Event{Key: r.Key, Version: r.Version, Value: r.Value})
				}
			}
		}
	}
}

// areOnce: P40.1: no request changed a key twice, as each has a value of its own.
func (j *judge) areOnce() {
	j.t.Helper()
	done := map[[2]string]int{}
	for at, e := range j.facts {
		name := [2]string{e.Key, e.Value}
		if was, there := done[name]; there && !e.Del {
			j.t.Fatalf("P26.3, P40.1: %s was done twice: %d, %d", name, was, at.version)
		}
		if !e.Del {
			done[name] = at.version
		}
	}
}

// look: what one call tells of one key's version.
type look struct {
	key     string
	version int
	changes bool
	asked   int
	done    int
}

func (j *judge) looks() (all []look) {
	for id := range api.MaxSessions {
		for _, c := range j.w.Session(id).Calls() {
			code := api.Errno(c.Answer.Code)
			if c.Answered == 0 || code != 0 && code != api.ErrNone && code != api.ErrClash {
				continue
			}
			switch x := (look{c.Op.Key, c.Answer.Version, c.Op.Kind != api.OGet && code == 0, c.Asked, c.Answered}); c.Op.Kind {
			case api.OGet, api.OPut, api.ODel, api.OCas:
				all = append(all, x)
			case api.ORange:
				for _, r := range c.Answer.Rows {
					all = append(all, look{r.Key, r.Version, false, c.Asked, c.Answered})
				}
			}
		}
	}
	return all
}

// areInOrder: P40.1: what was answered ahead of another one's asking is ahead of it; and no two change a key to one version.
func (j *judge) areInOrder() {
	j.t.Helper()
	all := j.looks()
	for i, a := range all {
		for k, b := range all {
			if a.key != b.key || i == k {
				continue
			}
			if a.changes && b.changes && a.version == b.version {
				j.t.Fatalf("P26.3, P40.1: both changed it: %+v, %+v", a, b)
			}
			if a.done < b.asked && (b.version < a.version || b.changes && b.version == a.version) {
				j.t.Fatalf("P26.3, P40.1: %+v, and then %+v", a, b)
			}
		}
	}
	for id := range api.MaxSessions {
		for _, c := range j.w.Session(id).Calls() {
			if c.Op.Kind != api.OCas || c.Answered == 0 {
				continue
			}
			if v := c.Answer.Version; c.Answer.Code == 0 && v != c.Op.Version+1 || c.Answer.Code == 15 && v == c.Op.Version {
				j.t.Fatalf("P26.3, P40.1: %+v", c)
			}
		}
	}
}

// areWhole: P40.3: of a batch all is there, or nothing, by one who was told all. How many were.
func (j *judge) areWhole() int {
	j.t.Helper()
	many := map[string]int{}
	for _, e := range j.facts {
		if !e.Del {
			many[e.Value]++
		}
	}
	whole := 0
	for id := range api.MaxSessions {
		for _, c := range j.w.Session(id).Calls() {
			if c.Op.Kind != api.OBatch {
				continue
			}
			got, want := many[c.Op.Writes[0].Value], len(c.Op.Writes)
			if got != 0 && got != want || c.Answered > 0 && c.Answer.Code == 0 && got != want {
				j.t.Fatalf("P26.3, P40.3: %d are there of %+v", got, c)
			}
			if got == want {
				whole++
			}
		}
	}
	return whole
}

// haveAll: P40.5: each watch has seen all, or is told that it is compacted. How many go on, and whether one of them was told all from the first version on.
func (j *judge) haveAll() (on int, all bool) {
	j.t.Helper()
	last := j.cells()
	for id := range api.MaxSessions {
		s := j.w.Session(id)
		for n := range s.Watches() {
			x, _ := s.Get(n)
			if x.Over != 0 {
				continue
			}
			on++
			all = all || x.Span == sp("", "") && len(j.tokens[[2]int{id, n}]) == 0
			for key, c := range last {
				if span.Has(x.Span, key) && token.Of(x.Seen, key) != c.Version {
					j.t.Fatalf("P26.3, P40.5: session %d: %+v hasn't seen %+v", id, x, c)
				}
			}
		}
	}
	return on, all
}

// hasEnded: P40.5: the job, each request; and the plan is where the shards are.
func (j *judge) hasEnded() (answered, given int) {
	j.t.Helper()
	if job := j.w.Mover().Job(); job.Phase != api.MIdle {
		j.t.Fatalf("P26.3, P40.5: %+v hasn't ended", job)
	}
	for _, p := range j.w.Mover().Plan() {
		s, ok := j.w.Node(p.Node).Hold().Get(p.ID)
		if !ok || s.Epoch != p.Epoch || s.Span != p.Span || s.Frozen {
			j.t.Fatalf("P26.3, P40.5: %+v is %+v, %v", p, s, ok)
		}
	}
	if all := j.shards(); len(all) != len(j.w.Mover().Plan()) {
		j.t.Fatalf("P26.3, P40.5: %d places, and shards %+v", len(j.w.Mover().Plan()), all)
	}
	for id := range api.MaxSessions {
		if j.w.Session(id).Busy() {
			j.t.Fatalf("P26.3, P40.5: session %d is busy still", id)
		}
		for _, c := range j.w.Session(id).Calls() {
			if c.Answered < c.Asked || c.Answer.Code == 17 {
				j.t.Fatalf("P26.3, P40.5: %+v", c)
			}
			if c.Answer.Code == 21 {
				given++
			} else {
				answered++
			}
		}
	}
	return answered, given
}

// tally: what came of all rows, so that it is known that they show something.
type tally struct{ answered, given, told, on, whole int }

func (s *tally) add(j *judge) {
	j.t.Helper()
	answered, given := j.hasEnded()
	s.answered += answered
	s.given += given
	j.haveOwners()
	j.areKept()
	j.gather()
	j.areOnce()
	j.areInOrder()
	on, all := j.haveAll()
	s.on += on
	if all {
		s.whole += j.areWhole()
	}
	for id := range api.MaxSessions {
		s.told += len(j.w.Session(id).Told())
	}
}

// P26.3: whatever the network does, and whoever crashes, while shards are split, joined and moved: what the document says of the whole holds at each moment, and what was begun ends where all is calm.
func TestWhole(t *testing.T) {
	var sum tally
	for seed := range 60 {
		dice := rand.New(rand.NewSource(int64(seed)))
		j := newJudge(t)
		for id := range api.MaxSessions {
			j.do(watch(id, "", ""))
		}
		for range 1500 {
			j.do(anAct(dice, j.w))
		}
		j.w.Calm(120)
		j.areTold()
		j.mustBeOver()
		sum.add(j)
	}
	if sum.answered < 800 || sum.given < 80 || sum.told < 4000 || sum.on < 200 || sum.whole < 60 {
		t.Errorf("only %+v: that shows nothing", sum)
	}
}

// P26.3: where nothing is lost, and nobody crashes, each request of a shard that stays is answered, and each watch sees all.
func TestCalm(t *testing.T) {
	var sum tally
	for seed := range 30 {
		dice := rand.New(rand.NewSource(int64(seed)))
		j := newJudge(t)
		for id := range api.MaxSessions {
			j.do(watch(id, "", ""))
		}
		for range 120 {
			for id := range api.MaxSessions {
				if !j.w.Session(id).Busy() {
					j.do(ask(id, anOp(dice, j.w.Now())))
				}
			}
			if dice.Intn(6) == 0 {
				key := fmt.Sprint("k", dice.Intn(8))
				j.do([]api.Act{split(key), join(key)}[dice.Intn(2)])
			}
			j.w.Calm(1)
			j.haveOwners()
			j.areTold()
			j.mustBeOver()
		}
		j.w.Calm(60)
		j.areTold()
		j.mustBeOver()
		sum.add(j)
	}
	if sum.given != 0 || sum.answered < 2500 || sum.told < 3000 || sum.on < 60 || sum.whole < 100 {
		t.Errorf("only %+v: that shows nothing", sum)
	}
}
