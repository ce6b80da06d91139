package script_test

import (
	"fmt"
	"math/rand"
	"regexp"
	"slices"
	"strconv"
	"strings"
	"testing"

	"estuary/api"
	"estuary/audit"
	"estuary/fault"
	"estuary/script"
	"estuary/world"
)

// pattern: a line by the chapter's own words.
type pattern struct {
	words string
	whole *regexp.Regexp
}

// patterns: of all the lines that there are.
func patterns() (all []pattern) {
	form := strings.NewReplacer(
		"..", `((?: (?:[a-z0-9]+|-) (?:[a-z0-9]+|-))*)`,
		"C", `(0|[1-9][0-9]{0,8})`, "W", `(0|[1-9][0-9]{0,8})`, "N", `(0|[1-9][0-9]{0,8})`, "M", `(0|[1-9][0-9]{0,8})`,
		"K", `([a-z0-9]+|-)`, "V", `([a-z0-9]+|-)`)
	for _, words := range []string{
		"get C K", "put C K V", "del C K", "cas C K N V", "range C K K", "compact C K N", "batch C K V..", "watch C K K", "poll C W N", "cancel C W",
		"deliver N", "lose N", "twice N", "tick", "sync N", "crash N M", "trim N", "move K N", "split K", "join K", "abort", "calm N",
		"last C", "told C W", "state C W", "plan", "bag", "check",
	} {
		all = append(all, pattern{words, regexp.MustCompile(`\A` + form.Replace(words) + `\z`)})
	}
	return all
}

// model: the document's words once more, of a world of its own.
type model struct {
	t *testing.T
	*world.World
	patterns []pattern
}

func newModel(t *testing.T) *model { return &model{t, world.New(), patterns()} }

// do: none, if it is no line.
func (m *model) do(line string) ([]string, bool) {
	for _, p := range m.patterns {
		if found := p.whole.FindStringSubmatch(line); found != nil {
			word, _, _ := strings.Cut(p.words, " ")
			return m.line(word, found[1:]), true
		}
	}
	return nil, false
}

func (m *model) line(word string, w []string) []string {
	switch word {
	case "get":
		return m.ask(w[0], api.Op{Kind: api.OGet, Key: text(w[1])})
	case "put":
		return m.ask(w[0], api.Op{Kind: api.OPut, Key: text(w[1]), Value: text(w[2])})
	case "del":
		return m.ask(w[0], api.Op{Kind: api.ODel, Key: text(w[1])})
	case "cas":
		return m.ask(w[0], api.Op{Kind: api.OCas, Key: text(w[1]), Version: num(w[2]), Value: text(w[3])})
	case "range":
		return m.ask(w[0], api.Op{Kind: api.ORange, Key: text(w[1]), To: text(w[2])})
	case "compact":
		return m.ask(w[0], api.Op{Kind: api.OCompact, Key: text(w[1]), Version: num(w[2])})
	case "batch":
		return m.ask(w[0], api.Op{Kind: api.OBatch, Writes: writes(w[1] + " " + w[2] + w[3])})
	case "watch":
		who := num(w[0])
		if l := m.act(api.Act{Kind: api.AWatch, Who: who, Span: api.Span{From: text(w[1]), To: text(w[2])}}); l[0] != "ok" {
			return l
		}
		return []string{fmt.Sprint("ok ", m.Session(who).Watches()-1)}
	case "poll":
		return m.act(api.Act{Kind: api.APoll, Who: num(w[0]), N: num(w[1]), M: num(w[2])})
	case "cancel":
		return m.act(api.Act{Kind: api.ACancel, Who: num(w[0]), N: num(w[1])})
	case "deliver":
		return m.act(api.Act{Kind: api.ADeliver, N: num(w[0])})
	case "lose":
		return m.act(api.Act{Kind: api.ALose, N: num(w[0])})
	case "twice":
		return m.act(api.Act{Kind: api.ATwice, N: num(w[0])})
	case "tick":
		return m.act(api.Act{Kind: api.ATick})
	case "sync":
		return m.act(api.Act{Kind: api.ASync, Who: num(w[0])})
	case "crash":
		return m.act(api.Act{Kind: api.ACrash, Who: num(w[0]), N: num(w[1])})
	case "trim":
		return m.act(api.Act{Kind: api.ATrim, Who: num(w[0])})
	case "move":
		return m.act(api.Act{Kind: api.AMove, Key: text(w[0]), Who: num(w[1])})
	case "split":
		return m.act(api.Act{Kind: api.ASplit, Key: text(w[0])})
	case "join":
		return m.act(api.Act{Kind: api.AJoin, Key: text(w[0])})
	case "abort":
		return m.act(api.Act{Kind: api.AAbort})
	case "calm":
		m.Calm(num(w[0]))
		return []string{"ok"}
	}
	return m.look(word, w)
}

func (m *model) look(word string, w []string) (lines []string) {
	switch word {
	case "plan":
		for _, p := range m.Mover().Plan() {
			lines = append(lines, fmt.Sprintf("%s %s %d %d %d", dash(p.Span.From), dash(p.Span.To), p.ID, p.Epoch, p.Node))
		}
		return lines
	case "bag":
		return []string{fmt.Sprint(m.Bag().Len())}
	case "check":
		if !audit.Linear(m.World) || !audit.Feeds(m.World) || !audit.Owners(m.World) || !audit.Kept(m.World) {
			return []string{"no"}
		}
		return []string{"yes"}
	}
	s := m.Session(num(w[0]))
	if s == nil || word != "last" && num(w[1]) >= s.Watches() {
		return []string{"error 23"}
	}
	switch word {
	case "last":
		calls := s.Calls()
		if len(calls) == 0 {
			return []string{"none"}
		}
		c := calls[len(calls)-1]
		if c.Answered == 0 {
			return []string{"waits"}
		}
		lines = []string{fmt.Sprintf("%d %d %s", c.Answer.Code, c.Answer.Version, dash(c.Answer.Value))}
		for _, r := range c.Answer.Rows {
			lines = append(lines, fmt.Sprintf("%s %d %s", r.Key, r.Version, dash(r.Value)))
		}
	case "told":
		for _, x := range s.Told() {
			if x.Watch == num(w[1]) && x.Event.Del {
				lines = append(lines, fmt.Sprintf("%s %d gone", x.Event.Key, x.Event.Version))
			} else if x.Watch == num(w[1]) {
				lines = append(lines, fmt.Sprintf("%s %d %s", x.Event.Key, x.Event.Version, dash(x.Event.Value)))
			}
		}
	case "state":
		x, _ := s.Get(num(w[1]))
		lines = []string{[]string{"on", "compacted", "cancelled"}[x.Over]}
	}
	return lines
}

func (m *model) ask(who string, o api.Op) []string {
	return m.act(api.Act{Kind: api.AAsk, Who: num(who), Op: o})
}

func (m *model) act(a api.Act) []string {
	if err := m.Do(a); err != nil {
		return []string{fmt.Sprint("error ", int(fault.Code(err)))}
	}
	return []string{"ok"}
}

func num(word string) int {
	n, err := strconv.Atoi(word)
	if err != nil {
		panic(err)
	}
	return n
}

func text(word string) string {
	if word == "-" {
		return ""
	}
	return word
}

func dash(text string) string {
	if text == "" {
		return "-"
	}
	return text
}

func writes(pairs string) (all []api.Write) {
	words := strings.Split(pairs, " ")
	for i := 0; i < len(words); i += 2 {
		all = append(all, api.Write{Key: text(words[i]), Value: text(words[i+1]), Del: words[i+1] == "-"})
	}
	slices.SortStableFunc(all, func(a, b api.Write) int { return strings.Compare(a.Key, b.Key) })
	return all
}

// twin: a script and its model, to which the same is said.
type twin struct {
	*talk
	m *model
}

func newTwin(t *testing.T) *twin { return &twin{newTalk(t, "P28.1"), newModel(t)} }

// do: both are told the same, or neither is a line. Whether it is one.
func (k *twin) do(line string) bool {
	k.t.Helper()
	now := k.World().Now()
	got, err := k.Do(line)
	want, ok := k.m.do(line)
	if !ok {
		want = nil
	}
	if ok != (err == nil) || !ok && fault.Code(err) != api.ErrLine || !slices.Equal(got, want) {
		k.t.Fatalf("P28.1: %q: %q, %v, want %q, %v", line, got, err, want, ok)
	}
	if k.World().Now() != k.m.Now() || !ok && k.World().Now() != now {
		k.t.Fatalf("P28.1: %q: now %d, was %d, want %d", line, k.World().Now(), now, k.m.Now())
	}
	return ok
}

// same: of all that can be told of both worlds.
func (k *twin) same(name string) {
	k.t.Helper()
	if got, want := state(k.World()), state(k.m.World); got != want {
		k.t.Fatalf("P28.2: %s: a script does what the calls do:\n%s\nwant\n%s", name, got, want)
	}
}

// examples: a good one of each line.
func examples() []string {
	return []string{
		"get 0 k", "put 0 k v", "del 0 k", "cas 0 k 1 v", "range 0 a z", "compact 0 k 3", "batch 0 k v", "batch 0 k v a b", "watch 0 a z", "poll 0 0 8", "cancel 0 0",
		"deliver 0", "lose 0", "twice 0", "tick", "sync 0", "crash 0 7", "trim 0", "move k 1", "split k", "join k", "abort", "calm 1",
		"last 0", "told 0 0", "state 0 0", "plan", "bag", "check",
	}
}

// P28.1: the examples are lines; what has a word less, a word more, or other blanks is none, and changes nothing.
func TestWords(t *testing.T) {
	batch := regexp.MustCompile(`^batch 0( [a-z0-9]+ [a-z0-9]+)+$`) // has as many pairs as one likes
	for _, line := range examples() {
		k := newTwin(t)
		k.do("put 1 k v")
		k.do("watch 0 - -")
		was := state(k.World())
		cut := max(strings.LastIndex(line, " "), 0)
		for _, none := range []string{
			line[:cut], " " + line, line + " ", line + " -", line + " 0", line + " k v w", line + "\n", line + "\t", line + "\x00", "\n" + line, line + " " + line, line + ";" + line,
			strings.ToUpper(line), strings.ToUpper(line[:1]) + line[1:], line[1:], line[:1], "x" + line, strings.ReplaceAll(line, " ", "  "), strings.ReplaceAll(line, " ", "\t"), strings.ReplaceAll(line, " ", "\u00a0"), strings.ReplaceAll(line, " ", ","),
		} {
			if none == line || batch.MatchString(none) {
				continue
			}
			if k.do(none) {
				t.Errorf("P28.1: %q is a line", none)
			}
		}
		if state(k.World()) != was {
			t.Errorf("P28.1: what is none, but like %q, changed something", line)
		}
		if !k.do(line) {
			t.Errorf("P28.1: %q is no line", line)
		}
		k.same(line)
	}
}

// P28.1: numbers are decimal, of at most nine digits, without a nought ahead; keys and values small letters and digits, or `-`.
func TestForms(t *testing.T) {
	numbers := map[string]bool{"0": true, "1": true, "9": true, "10": true, "123456789": true, "999999999": true,
		"": false, "00": false, "01": false, "000000001": false, "1000000000": false, "9999999999": false, "0123456789": false, "99999999999999999999": false, "+1": false, "-1": false, "-0": false, "+0": false, "-": false,
		"1a": false, "a": false, "a1": false, "1.0": false, ".": false, "1e3": false, "0x1": false, "0b1": false, "0o7": false, "1_0": false, "1,0": false, "１": false, "٣": false, "1\x00": false, "k": false}
	texts := map[string]bool{"-": true, "k": true, "0": true, "00": true, "007": true, "az09": true, "z": true, longKey: true, longKey + "k": true, longValue + "v": true, strings.Repeat("v", 300): true,
		"": false, "--": false, "-k": false, "k-": false, "a-b": false, "K": false, "aB": false, "ß": false, "é": false, "k\xff": false, "\x00": false, "a_b": false, "a.b": false, "`": false, "{": false, "/": false, ":": false, "k\n": false, "\tk": false, "'k'": false, "..": false, "1": true, "+": false}
	isNumber := regexp.MustCompile(`^[0-9]+$`)
	tried := 0
	for _, line := range examples() {
		words := strings.Split(line, " ")
		for i, was := range words {
			forms := texts
			if isNumber.MatchString(was) {
				forms = numbers
			}
			for word, want := range forms {
				if i == 0 {
					break
				}
				words[i] = word
				k := newTwin(t)
				if tried++; k.do(strings.Join(words, " ")) != want {
					t.Errorf("P28.1: %q: %v, want %v", words, !want, want)
				}
				k.same(line)
			}
			words[i] = was
		}
	}
	if tried < 1000 {
		t.Errorf("P28.1: only %d were tried", tried)
	}
}

// P28.1: and what no word of the chapter's is.
func TestNone(t *testing.T) {
	for _, line := range []string{"", " ", "  ", "-", "ok", "none", "help", "gets 0 k", "ge 0 k", "error 23", "0", "\x00", "\xff", "poll", "ask 0 k", "give 0 k", "thaw 0", "freeze 0", "now", "batch 0", "batch 0 k", "batch 0 k v a", "batch 0 k v a b c", "batch", "batch k v", "watch 0", "watch 0 -", "crash 0", "crash", "told", "told 0", "state 0", "last", "last 0 0", "plan 0", "bag 0", "check -", "tick 1", "abort k", "CHECK", "check\n", "check ", " check", "check check", "get  0 k", "get 0  k", "get 0 k ", "get\t0\tk", strings.Repeat("k ", 100000), strings.Repeat(" ", 100000), "put 0 k " + strings.Repeat("V", 100000)} {
		k := newTwin(t)
		was := state(k.World())
		if k.do(line) || state(k.World()) != was {
			t.Errorf("P28.1: %q is a line", line)
		}
	}
	var s script.Script
	if got, err := s.Do("no line"); got != nil || fault.Code(err) != api.ErrLine {
		t.Errorf("P28.1: %q, %v", got, err)
	}
	k := newTwin(t)
	k.do("batch 0" + strings.Repeat(" k v", 50000))
	k.do("put 0 " + strings.Repeat("k", 100000) + " -")
	k.do("put 0 k " + strings.Repeat("v", 40))
	k.do("put 1 k " + strings.Repeat("v", 41))
	k.same("long ones")
}

// aLine: whatever may be said; more of what goes on than of what is refused.
func aLine(d *rand.Rand, w *world.World) string {
	c, k, i, v := d.Intn(3), fmt.Sprint("k", d.Intn(7)), d.Intn(w.Bag().Len()+1), fmt.Sprint("v", w.Now())
	other := []string{"-", fmt.Sprint("k", d.Intn(7))}[d.Intn(2)]
	switch d.Intn(62) {
	case 0:
		return fmt.Sprint("lose ", i)
	case 1, 2:
		return fmt.Sprint("twice ", i)
	case 3, 4, 5, 6, 7, 8:
		return fmt.Sprint("sync ", c)
	case 9, 10, 11:
		return "tick"
	case 12:
		return fmt.Sprint("crash ", c, " ", d.Intn(w.Node(c).Loose()+2))
	case 13:
		return fmt.Sprint("trim ", c)
	case 14, 15:
		return fmt.Sprint("move ", k, " ", c)
	case 16, 17:
		return "split " + k
	case 18:
		return "join " + k
	case 19:
		return []string{"abort", "calm 1", "calm 3", fmt.Sprint("cancel ", c, " ", d.Intn(4))}[d.Intn(4)]
	case 20:
		return fmt.Sprint("watch ", c, " ", other, " ", []string{"-", "k4"}[d.Intn(2)])
	case 21, 22, 23, 24, 25:
		return fmt.Sprint("poll ", c, " ", d.Intn(4), " ", d.Intn(10))
	case 26, 27, 28:
		return fmt.Sprint("get ", c, " ", k)
	case 29, 30, 31, 32:
		return fmt.Sprint("put ", c, " ", k, " ", []string{"-", v, v, v}[d.Intn(4)])
	case 33:
		return fmt.Sprint("del ", c, " ", k)
	case 34:
		return fmt.Sprint("cas ", c, " ", k, " ", d.Intn(5), " ", v)
	case 35:
		return fmt.Sprint("range ", c, " ", k, " ", other)
	case 36:
		return []string{"", fmt.Sprint("compact ", c, " ", k, " ", d.Intn(26))}[d.Intn(2)]
	case 37:
		return fmt.Sprint("batch ", c, " ", k, " ", v, []string{"", " k9 -", " k8 w k1 x", " " + k + " w"}[d.Intn(4)])
	case 38:
		return []string{"get 3 k", "sync 3", "last 3", "told 0 3", "split", "tick 0", "put 0 k V", "Tick", "state 3 0"}[d.Intn(9)]
	case 39, 40, 41:
		return []string{"check", "plan", "bag"}[d.Intn(3)]
	case 42, 43, 44:
		return fmt.Sprint([]string{"last", "told", "state"}[d.Intn(3)], " ", c, []string{"", " 0", " 1"}[d.Intn(3)])
	}
	return fmt.Sprint("deliver ", i*d.Intn(4)/3)
}

// P28.1, P28.2: a script says and does what the model does, whatever goes on.
func TestRows(t *testing.T) {
	kinds := map[string]int{}
	for seed := range 40 {
		d := rand.New(rand.NewSource(int64(seed)))
		k := newTwin(t)
		for i := range 1200 {
			line := aLine(d, k.m.World)
			word, _, _ := strings.Cut(line, " ")
			if k.do(line) {
				kinds[word]++
			}
			if i%100 == 0 {
				k.same(fmt.Sprintf("seed %d, line %d, %q", seed, i, line))
			}
		}
		k.do("calm 60")
		for c := range api.MaxSessions {
			k.do(fmt.Sprint("last ", c))
			for n := range api.MaxWatches {
				k.do(fmt.Sprint("told ", c, " ", n))
				k.do(fmt.Sprint("state ", c, " ", n))
			}
		}
		k.same(fmt.Sprint("seed ", seed))
	}
	for _, line := range examples() {
		if word, _, _ := strings.Cut(line, " "); kinds[word] < 20 {
			t.Errorf("P28.2: only %d of %q: that shows nothing", kinds[word], word)
		}
	}
}
