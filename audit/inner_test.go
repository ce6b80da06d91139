package audit

import (
	"testing"

	"estuary/api"
)

// P27.3: what no watcher would tell: it is asked here, as no World has it.
func TestHasSeen(t *testing.T) {
	span := api.Span{From: "b", To: "m"}
	had := []api.Seen{{Key: "b", Version: 2}, {Key: "k", Version: 7}}
	e := func(key string, version int) api.Event { return api.Event{Key: key, Version: version} }
	rows := []struct {
		name string
		span api.Span
		l    []api.Event
		want bool
	}{
		{"nothing", span, nil, true},
		{"the last ones", span, []api.Event{e("b", 2), e("k", 7)}, true},
		{"one by one", span, []api.Event{e("k", 5), e("b", 1), e("k", 6), e("b", 2), e("k", 7)}, true},
		{"one alone", span, []api.Event{e("k", 6), e("k", 7)}, true},
		{"one is left out", span, []api.Event{e("k", 5), e("k", 7)}, false},
		{"one comes twice", span, []api.Event{e("k", 6), e("k", 6), e("k", 7)}, false},
		{"all come twice", span, []api.Event{e("k", 6), e("k", 7), e("k", 6), e("k", 7)}, false},
		{"out of order", span, []api.Event{e("k", 7), e("k", 6)}, false},
		{"less than was seen", span, []api.Event{e("k", 5), e("k", 6)}, false},
		{"more than was seen", span, []api.Event{e("k", 7), e("k", 8)}, false},
		{"of another key less", span, []api.Event{e("b", 1), e("k", 7)}, false},
		{"not seen at all", span, []api.Event{e("c", 1)}, false},
		{"ahead of the span", api.Span{From: "c", To: "m"}, []api.Event{e("b", 2)}, false},
		{"behind the span", api.Span{From: "b", To: "k"}, []api.Event{e("b", 2), e("k", 7)}, false},
		{"the first one in the span, and one that isn't", api.Span{From: "b", To: "c"}, []api.Event{e("k", 6), e("b", 2), e("k", 7)}, false},
		{"an open end", api.Span{From: "b"}, []api.Event{e("b", 2), e("k", 7)}, true},
		{"all keys", api.Span{}, []api.Event{e("b", 2), e("k", 7)}, true},
		{"no span", api.Span{From: "m", To: "b"}, []api.Event{e("k", 7)}, false},
	}
	for _, x := range rows {
		if got := hasSeen(api.Watch{Span: x.span, Seen: had}, x.l); got != x.want {
			t.Errorf("P27.3: %s: %v", x.name, got)
		}
	}
}
