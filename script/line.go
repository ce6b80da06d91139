package script

import (
	"cmp"
	"slices"
	"strconv"
	"strings"

	"estuary/api"
)

const (
	empty       = "-" // the word of an empty text
	letters     = "abcdefghijklmnopqrstuvwxyz0123456789"
	mostNumber  = 999999999
	mostNumbers = 3 // of a line
)

// form: what a line may be. Behind its first word comes one word for each letter of parts: C, W, N and M numbers, K and V texts.
type form struct {
	word, parts string
	act, op     int // 0: none
}

var forms = [...]form{
	{"get", "CK", api.AAsk, api.OGet},
	{"put", "CKV", api.AAsk, api.OPut},
	{"del", "CK", api.AAsk, api.ODel},
	{"cas", "CKNV", api.AAsk, api.OCas},
	{"range", "CKK", api.AAsk, api.ORange},
	{"compact", "CKN", api.AAsk, api.OCompact},
	{"batch", "CKV", api.AAsk, api.OBatch},
	{"watch", "CKK", api.AWatch, 0},
	{"poll", "CWN", api.APoll, 0},
	{"cancel", "CW", api.ACancel, 0},
	{"deliver", "N", api.ADeliver, 0},
	{"lose", "N", api.ALose, 0},
	{"twice", "N", api.ATwice, 0},
	{"tick", "", api.ATick, 0},
	{"sync", "N", api.ASync, 0},
	{"crash", "NM", api.ACrash, 0},
	{"trim", "N", api.ATrim, 0},
	{"move", "KN", api.AMove, 0},
	{"split", "K", api.ASplit, 0},
	{"join", "K", api.AJoin, 0},
	{"abort", "", api.AAbort, 0},
	{"calm", "N", 0, 0},
	{"last", "C", 0, 0},
	{"told", "CW", 0, 0},
	{"state", "CW", 0, 0},
	{"plan", "", 0, 0},
	{"bag", "", 0, 0},
	{"check", "", 0, 0},
}

// line: what was read of one, each sort in its order. Numbers that it hasn't are 0.
type line struct {
	form
	numbers [mostNumbers]int
	texts   []string
}

// read: false of what is no line.
func read(all string) (line, bool) {
	words := strings.Split(all, " ")
	l, ok := begin(words[0], len(words)-1)
	if !ok || len(l.parts) != len(words)-1 {
		return line{}, false
	}
	numbers := 0
	for i, word := range words[1:] {
		switch l.parts[i] {
		case 'K', 'V':
			var t string
			t, ok = text(word)
			l.texts = append(l.texts, t)
		default:
			l.numbers[numbers], ok = number(word)
			numbers++
		}
		if !ok {
			return line{}, false
		}
	}
	return l, true
}

// begin: a batch has as many pairs as there are words for, others have their own number of words.
func begin(word string, rest int) (line, bool) {
	for _, f := range forms {
		if f.word != word {
			continue
		}
		if f.op == api.OBatch {
			f.parts += strings.Repeat("KV", max(rest-len(f.parts), 0)/2)
		}
		return line{form: f}, true
	}
	return line{}, false
}

// number: by its own text alone, so neither with a sign nor with a nought ahead.
func number(word string) (int, bool) {
	n, _ := strconv.Atoi(word)
	return n, n >= 0 && n <= mostNumber && strconv.Itoa(n) == word
}

// text: a key, or a value; how long one may be is judged by whom it comes to.
func text(word string) (string, bool) {
	if word == empty {
		return "", true
	}
	return word, word != "" && strings.Trim(word, letters) == ""
}

// actOf: what a number stands for hangs on the act.
func actOf(l line) api.Act {
	a := api.Act{Kind: l.act}
	switch l.act {
	case api.AAsk:
		a.Who, a.Op = l.numbers[0], opOf(l)
	case api.AWatch:
		a.Who, a.Span = l.numbers[0], api.Span{From: l.texts[0], To: l.texts[1]}
	case api.APoll:
		a.M = l.numbers[2]
		fallthrough
	case api.ACancel, api.ACrash:
		a.N = l.numbers[1]
		fallthrough
	case api.ASync, api.ATrim:
		a.Who = l.numbers[0]
	case api.ADeliver, api.ALose, api.ATwice:
		a.N = l.numbers[0]
	case api.AMove:
		a.Who = l.numbers[0]
		fallthrough
	case api.ASplit, api.AJoin:
		a.Key = l.texts[0]
	}
	return a
}

// opOf: by op's Is it may be none; whoever is asked says so.
func opOf(l line) api.Op {
	o := api.Op{Kind: l.op, Key: l.texts[0]}
	switch l.op {
	case api.OCas:
		o.Version = l.numbers[1]
		fallthrough
	case api.OPut:
		o.Value = l.texts[1]
	case api.ORange:
		o.To = l.texts[1]
	case api.OCompact:
		o.Version = l.numbers[1]
	case api.OBatch:
		o.Key, o.Writes = "", writes(l.texts)
	}
	return o
}

// writes: in order of Key, as a batch has them; what a line says twice stays twice, and so is refused.
func writes(pairs []string) []api.Write {
	var all []api.Write
	for pair := range slices.Chunk(pairs, 2) {
		all = append(all, api.Write{Key: pair[0], Value: pair[1], Del: pair[1] == ""})
	}
	slices.SortStableFunc(all, func(a, b api.Write) int { return cmp.Compare(a.Key, b.Key) })
	return all
}
