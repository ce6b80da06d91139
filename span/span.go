// Package span: keys and spans: see doc/01-span.md.
package span

import (
	"estuary/api"
)

// IsKey: the empty text is no key, as it stands for an open end of a span.
func IsKey(k string) bool { return k != "" && len(k) <= api.MaxKey }

// Is: a span with an end must have all that one without needs, and a good end.
func Is(s api.Span) bool {
	switch {
	case s.To != "":
		if s.To <= s.From || len(s.To) > api.MaxKey {
			return false
		}
		fallthrough
	default:
		return len(s.From) <= api.MaxKey
	}
}

// Has: only where there is an end does it keep keys out, the start always does.
func Has(s api.Span, k string) bool {
	if !Is(s) || !IsKey(k) {
		return false
	}
	switch {
	case s.To != "":
		if k >= s.To {
			return false
		}
		fallthrough
	default:
		return k >= s.From
	}
}

// Meet: by the ends alone, so what lies below the key of one zero byte is a span too, though no key is there.
func Meet(a, b api.Span) (api.Span, bool) {
	if !Is(a) || !Is(b) {
		return api.Span{}, false
	}
	both := api.Span{From: max(a.From, b.From), To: firstEnd(a.To, b.To)}
	if !Is(both) {
		return api.Span{}, false
	}
	return both, true
}

// Within: a span is within itself.
func Within(a, b api.Span) bool {
	return Is(a) && Is(b) && a.From >= b.From && firstEnd(a.To, b.To) == a.To
}

// Touch: an open end touches nothing, not even an open start, though both are the empty text.
func Touch(a, b api.Span) bool {
	return Is(a) && Is(b) && a.To != "" && a.To == b.From
}

// Cut: at its own start a span can't be cut, as nothing would be below.
func Cut(s api.Span, k string) (api.Span, api.Span, bool) {
	if !Has(s, k) || k == s.From {
		return api.Span{}, api.Span{}, false
	}
	return api.Span{From: s.From, To: k}, api.Span{From: k, To: s.To}, true
}

// firstEnd: an empty end is above all others, so it gives way to what the other one is.
func firstEnd(a, b string) string {
	switch {
	case a == "":
		a = b
		fallthrough
	case b == "":
		return a
	default:
		return min(a, b)
	}
}
