package script_test

import (
	"fmt"
	"math/rand"
	"strings"
	"testing"

	"estuary/api"
	"estuary/span"
	"estuary/token"
)

// call: a request, as its lines tell it. Steps count from 1.
type call struct {
	words           []string
	asked, answered int
	code, version   int
	value           string
	rows            []string
}

// judge: knows of a script what its lines say, and holds the whole against that. Each value is put once.
type judge struct {
	*talk
	step  int
	calls []*call
	waits [api.MaxSessions]*call
	told1 map[[2]int]int            // of a watch: how many lines it was told
	last  map[[2]int]map[string]int // of a watch: the last version of each key
	over  map[[2]int]bool
	facts map[string]string // by key and version, with a blank between: the value
}

func newJudge(t *testing.T) *judge {
	j := &judge{talk: newTalk(t, "P40.1"), told1: map[[2]int]int{}, last: map[[2]int]map[string]int{}, over: map[[2]int]bool{}, facts: map[string]string{}}
	for c := range api.MaxSessions {
		j.says(fmt.Sprintf("watch %d - - -> ok 0", c))
	}
	return j
}

// fact: P40.1: a version is one change, whoever tells of it.
func (j *judge) fact(key string, version int, value string) {
	j.t.Helper()
	at := fmt.Sprint(key, " ", version)
	if was, there := j.facts[at]; there && was != value {
		j.t.Fatalf("P40.1: %s is %s, and %s", at, was, value)
	}
	j.facts[at] = value
}

// do: a line, and what can be seen behind it.
func (j *judge) do(line string) {
	j.t.Helper()
	j.step++
	words := strings.Split(line, " ")
	if answer := j.told(line); answer == "ok" && strings.Contains("get put del cas range batch compact", words[0]) {
		x := &call{words: words, asked: j.step}
		j.calls, j.waits[num(words[1])] = append(j.calls, x), x
	}
	j.owned(line)
	j.bound(line)
	j.hear()
	if words[0] == "crash" {
		j.kept(line)
	}
}

// hear: who was answered, and who was told that a watch is over.
func (j *judge) hear() {
	j.t.Helper()
	for c, x := range j.waits {
		if x != nil {
			if lines := strings.Split(j.told(fmt.Sprint("last ", c)), "; "); lines[0] != "waits" {
				j.answered(x, lines)
				j.waits[c] = nil
			}
		}
		for n := range j.World().Session(c).Watches() {
			j.watch(c, n)
		}
	}
}

func (j *judge) answered(x *call, lines []string) {
	j.t.Helper()
	x.answered, x.rows = j.step, lines[1:]
	if n, err := fmt.Sscan(lines[0], &x.code, &x.version, &x.value); n != 3 {
		j.t.Fatalf("P40.1: %q: %v", lines, err)
	}
	kind := x.words[0]
	switch {
	case x.code != 0:
	case kind == "get":
		j.fact(x.words[2], x.version, x.value)
	case kind == "put", kind == "cas":
		j.fact(x.words[2], x.version, x.words[len(x.words)-1])
	case kind == "del":
		j.fact(x.words[2], x.version, "gone")
	}
	for _, row := range x.rows {
		w := strings.Split(row, " ")
		j.fact(w[0], num(w[1]), w[2])
	}
}

// watch: P40.2: the versions one by one, from 1 on. P40.6: it is told that it is compacted only where it must be.
func (j *judge) watch(c, n int) {
	j.t.Helper()
	name := [2]int{c, n}
	x, _ := j.World().Session(c).Get(n)
	if x.Tells > j.told1[name] {
		if j.last[name] == nil {
			j.last[name] = map[string]int{}
		}
		lines := strings.Split(j.told(fmt.Sprint("told ", c, " ", n)), "; ")
		for _, line := range lines[j.told1[name]:] {
			w := strings.Split(line, " ")
			key, version := w[0], num(w[1])
			if version != j.last[name][key]+1 || !span.Has(x.Span, key) {
				j.t.Fatalf("P40.2: session %d, watch %d: %s behind version %d", c, n, line, j.last[name][key])
			}
			j.last[name][key] = version
			j.fact(key, version, w[2])
		}
		j.told1[name] = len(lines)
	}
	if j.over[name] || j.told(fmt.Sprint("state ", c, " ", n)) != "compacted" {
		return
	}
	j.over[name] = true
	for _, s := range j.shards(true) {
		for _, cell := range s.Cells {
			if span.Has(x.Span, cell.Key) && cell.Floor > token.Of(x.Seen, cell.Key) {
				return
			}
		}
	}
	j.t.Fatalf("P40.6: session %d, watch %d is compacted, and needn't be: %+v", c, n, x)
}

// kept: P40.3: behind a crash each change that was answered is there, or what came behind it.
func (j *judge) kept(name string) {
	j.t.Helper()
	last := map[string]int{}
	for _, s := range j.shards(true) {
		for _, c := range s.Cells {
			last[c.Key] = max(last[c.Key], c.Version)
		}
	}
	for _, x := range j.calls {
		if changes(x) && last[x.words[2]] < x.version {
			j.t.Fatalf("P40.3: %s: %+v is lost: there is version %d", name, *x, last[x.words[2]])
		}
	}
}

// changes: that it was done is known, and at which version.
func changes(x *call) bool {
	return x.answered > 0 && x.code == 0 && (x.words[0] == "put" || x.words[0] == "del" || x.words[0] == "cas")
}

// looks: what a call says of one key's version.
type look struct {
	key     string
	version int
	*call
}

func (j *judge) looks() (all []look) {
	for _, x := range j.calls {
		if x.answered == 0 || x.code != 0 && x.code != 14 && x.code != 15 {
			continue
		}
		switch x.words[0] {
		case "get", "put", "del", "cas":
			all = append(all, look{x.words[2], x.version, x})
		case "range":
			for _, row := range x.rows {
				w := strings.Split(row, " ")
				all = append(all, look{w[0], num(w[1]), x})
			}
		}
	}
	return all
}

// ordered: P40.1: what was answered ahead of another one's asking is ahead of it.
func (j *judge) ordered() {
	j.t.Helper()
	all := j.looks()
	for _, a := range all {
		for _, b := range all {
			if a.key != b.key || a.call == b.call {
				continue
			}
			if changes(a.call) && changes(b.call) && a.version == b.version {
				j.t.Fatalf("P40.1: both changed it: %+v, %+v", *a.call, *b.call)
			}
			if a.answered < b.asked && (b.version < a.version || changes(b.call) && b.version == a.version) {
				j.t.Fatalf("P40.1: %+v, and then %+v", *a.call, *b.call)
			}
		}
	}
	for _, x := range j.calls {
		if own := x.words; own[0] == "cas" && x.answered > 0 && (x.code == 0 && x.version != num(own[3])+1 || x.code == 15 && x.version == num(own[3])) {
			j.t.Fatalf("P40.1: %+v", *x)
		}
	}
}

// once: P40.1: each value is at one version of a key; P40.3: and those of one batch are there all, or none of them, by one who was told all.
func (j *judge) once() (batches int) {
	j.t.Helper()
	at := map[string]string{}
	many := map[string]int{}
	for name, value := range j.facts {
		key, _, _ := strings.Cut(name, " ")
		if value == "gone" {
			continue
		}
		if was, there := at[key+" "+value]; there {
			j.t.Fatalf("P40.1: %s was put twice: %s, %s", value, was, name)
		}
		at[key+" "+value] = name
		many[value]++
	}
	for _, x := range j.calls {
		if x.words[0] != "batch" || !j.all() {
			continue
		}
		got, want := many[x.words[3]], len(x.words)/2-1
		if got != 0 && got != want || x.answered > 0 && x.code == 0 && got != want {
			j.t.Fatalf("P40.3: %d are there of %+v", got, *x)
		}
		if got == want {
			batches++
		}
	}
	return batches
}

// all: whether one was told all from the first version on.
func (j *judge) all() bool {
	for c := range api.MaxSessions {
		if j.told(fmt.Sprint("state ", c, " 0")) == "on" {
			return true
		}
	}
	return false
}

// seen: P40.5: each watch that goes on was told all that there is.
func (j *judge) seen() (on int) {
	j.t.Helper()
	for c := range api.MaxSessions {
		for n := range j.World().Session(c).Watches() {
			x, _ := j.World().Session(c).Get(n)
			if j.told(fmt.Sprint("state ", c, " ", n)) != "on" {
				continue
			}
			on++
			for _, s := range j.shards(true) {
				for _, cell := range s.Cells {
					if span.Has(x.Span, cell.Key) && j.last[[2]int{c, n}][cell.Key] != cell.Version {
						j.t.Fatalf("P40.5: session %d, watch %d: of %+v version %d was told last", c, n, cell, j.last[[2]int{c, n}][cell.Key])
					}
				}
			}
		}
	}
	return on
}

// tally: what came of all rows, so that it is known that they show something.
type tally struct{ answered, given, told, on, batches, compacted, jobs int }

func (s *tally) add(j *judge) {
	j.t.Helper()
	j.step++
	j.ends("calm")
	j.hear()
	j.owned("calm")
	j.bound("calm")
	j.kept("calm")
	j.ordered()
	s.batches += j.once()
	s.on += j.seen()
	for _, x := range j.calls {
		switch {
		case x.answered == 0 || x.code == 17 || x.code == 20:
			j.t.Fatalf("P40.5: %+v", *x)
		case x.code == 21:
			s.given++
		default:
			s.answered++
		}
	}
	for _, n := range j.told1 {
		s.told += n
	}
	s.compacted += len(j.over)
	s.jobs += j.World().Mover().Plan()[0].ID
	if shards, places := len(j.shards(true)), len(j.World().Mover().Plan()); shards != places {
		j.t.Fatalf("P40.5: %d shards, %d places", shards, places)
	}
}

// weather: how often each sort of thing goes on, so that rows are unlike.
type weather struct{ keys, deliver, first, lose, twice, sync, tick, crash, trim, job, poll, watch, ask int }

func aWeather(d *rand.Rand) weather {
	return weather{keys: 1 + d.Intn(9), deliver: 5 + d.Intn(20), first: 5 + d.Intn(20), lose: d.Intn(4), twice: d.Intn(5), sync: 3 + d.Intn(12), tick: 1 + d.Intn(7), crash: d.Intn(3), trim: d.Intn(2), job: 1 + d.Intn(6), poll: 2 + d.Intn(9), watch: d.Intn(2), ask: 4 + d.Intn(12)}
}

// aDay: a line of that weather.
func (x weather) aDay(d *rand.Rand, w *talk) string {
	c, k, i := d.Intn(3), fmt.Sprint("k", d.Intn(x.keys)), d.Intn(w.World().Bag().Len()+1)
	sum := d.Intn(x.deliver + x.first + x.lose + x.twice + x.sync + x.tick + x.crash + x.trim + x.job + x.poll + x.watch + x.ask)
	among := func(n int) bool {
		sum -= n
		return sum < 0
	}
	switch {
	case among(x.deliver):
		return fmt.Sprint("deliver ", i)
	case among(x.first):
		return "deliver 0"
	case among(x.lose):
		return fmt.Sprint("lose ", i)
	case among(x.twice):
		return fmt.Sprint("twice ", i)
	case among(x.sync):
		return fmt.Sprint("sync ", c)
	case among(x.tick):
		return "tick"
	case among(x.crash):
		return fmt.Sprint("crash ", c, " ", d.Intn(w.World().Node(c).Loose()+1))
	case among(x.trim):
		return fmt.Sprint("trim ", c)
	case among(x.job):
		return []string{fmt.Sprint("move ", k, " ", c), fmt.Sprint("move ", k, " ", c), "split " + k, "split " + k, "join " + k, "abort"}[d.Intn(6)]
	case among(x.poll):
		return fmt.Sprint("poll ", c, " ", d.Intn(3), " ", d.Intn(10))
	case among(x.watch):
		return fmt.Sprint("watch ", c, " ", []string{"-", k}[d.Intn(2)], " ", []string{"-", "k5"}[d.Intn(2)])
	}
	return anAsk(d, c, k, fmt.Sprint("v", w.World().Now()))
}

// anAsk: value is of this one alone.
func anAsk(d *rand.Rand, c int, k, value string) string {
	switch d.Intn(16) {
	case 0, 1, 2:
		return fmt.Sprint("get ", c, " ", k)
	case 3:
		return fmt.Sprint("del ", c, " ", k)
	case 4, 5:
		return fmt.Sprint("cas ", c, " ", k, " ", d.Intn(6), " ", value)
	case 6:
		return fmt.Sprint("range ", c, " ", k, " ", k, "z")
	case 7, 8:
		line := fmt.Sprint("batch ", c)
		for _, more := range []string{"", "a", "b", "c"}[:1+d.Intn(4)] {
			line += fmt.Sprint(" ", k, more, " ", value)
		}
		return line
	case 9:
		if d.Intn(4) == 0 {
			return fmt.Sprint("compact ", c, " ", k, " ", d.Intn(api.MaxHistory))
		}
	}
	return fmt.Sprint("put ", c, " ", k, " ", value)
}

// P40.1 to P40.6: whatever goes on, at each moment, and when all is calm.
func TestWhole(t *testing.T) {
	var sum tally
	for seed := range 90 {
		d := rand.New(rand.NewSource(int64(seed)))
		j, now := newJudge(t), aWeather(d)
		for range 900 {
			j.do(now.aDay(d, j.talk))
		}
		sum.add(j)
	}
	if sum.answered < 1000 || sum.given < 80 || sum.told < 4000 || sum.on < 300 || sum.batches < 80 || sum.compacted < 12 || sum.jobs < 150 {
		t.Errorf("only %+v: that shows nothing", sum)
	}
}
