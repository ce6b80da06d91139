// Package parts: what is packed, part by part: for the layers that put many parts into bytes and read them again.
package parts

import (
	"estuary/api"
	"estuary/pack"
)

const mostText = 255 // bytes of a text in a Span or an Event; whether it is as short as it must be is for the layer to say

// Taker: behind an error it takes nothing more, so the first one stays, and one look at the end is enough.
type Taker struct {
	Left string
	Err  error
}

// Num: 0 behind an error.
func (t *Taker) Num() int { return By(t, pack.Take) }

// Text: of most bytes at most; empty behind an error.
func (t *Taker) Text(most int) string {
	return By(t, func(s string) (string, string, error) { return pack.TakeText(s, most) })
}

// Flag: false behind an error.
func (t *Taker) Flag() bool { return By(t, pack.TakeFlag) }

// Span: behind an error what wasn't taken of it is empty.
func (t *Taker) Span() api.Span {
	return api.Span{From: t.Text(mostText), To: t.Text(mostText)}
}

// Event: likewise.
func (t *Taker) Event() api.Event {
	return api.Event{Key: t.Text(mostText), Version: t.Num(), Value: t.Text(mostText), Del: t.Flag()}
}

// By: for parts that a layer reads by itself; what isn't taken stays in front.
func By[T any](t *Taker, take func(string) (T, string, error)) (taken T) {
	if t.Err == nil {
		taken, t.Left, t.Err = take(t.Left)
	}
	return taken
}

// List: too many are told as such also where the bytes lack, and none of them is taken; it ends at an error, as their number may be any.
func List[T any](t *Taker, most int, one func(*Taker) T) []T {
	n := t.Num()
	if n > most {
		t.Err = api.ErrLarge
	}
	var l []T
	for ; n > 0 && t.Err == nil; n-- {
		l = append(l, one(t))
	}
	return l
}

// Bytes: how many stands ahead of them, so that List knows where they end.
func Bytes[T any](l []T, one func(T) string) string {
	b := []byte(pack.Num(len(l)))
	for _, x := range l {
		b = append(b, one(x)...)
	}
	return string(b)
}

// SpanBytes: of what isn't Is, too.
func SpanBytes(s api.Span) string { return pack.Text(s.From) + pack.Text(s.To) }

// EventBytes: likewise.
func EventBytes(e api.Event) string {
	return pack.Text(e.Key) + pack.Num(e.Version) + pack.Text(e.Value) + pack.Flag(e.Del)
}
