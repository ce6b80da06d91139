// Package bare: all that a shard has, as bytes without a frame: for the layers that write shards, alone or within something else.
package bare

import (
	"math"

	"estuary/api"
	"estuary/op"
	"estuary/pack"
	"estuary/parts"
)

// Bytes: whether it is Is is for the layer to see; what isn't may come out as the bytes of another one.
func Bytes(s api.Shard) string {
	return pack.Num(s.ID) + pack.Num(s.Epoch) + parts.SpanBytes(s.Span) + pack.Flag(s.Frozen) +
		parts.Bytes(s.Cells, cellBytes) + parts.Bytes(s.Events, parts.EventBytes) + parts.Bytes(s.Done, doneBytes)
}

// Take: likewise. A shard may have any number of cells, but each one has bytes, so it ends with these.
func Take(t *parts.Taker) api.Shard {
	s := api.Shard{ID: t.Num(), Epoch: t.Num(), Span: t.Span(), Frozen: t.Flag()}
	s.Cells = parts.List(t, math.MaxInt, takeCell)
	s.Events = parts.List(t, api.MaxHistory, (*parts.Taker).Event)
	s.Done = parts.List(t, api.MaxSessions, takeDone)
	return s
}

func cellBytes(c api.Cell) string {
	return pack.Text(c.Key) + pack.Text(c.Value) + pack.Num(c.Version) + pack.Flag(c.Del) + pack.Num(c.Floor)
}

func takeCell(t *parts.Taker) api.Cell {
	return api.Cell{Key: t.Text(api.MaxKey), Value: t.Text(api.MaxValue), Version: t.Num(), Del: t.Flag(), Floor: t.Num()}
}

func doneBytes(d api.Done) string {
	return pack.Num(d.Session) + pack.Num(d.ID) + op.AnswerBytes(d.Answer)
}

func takeDone(t *parts.Taker) api.Done {
	return api.Done{Session: t.Num(), ID: t.Num(), Answer: parts.By(t, op.ReadAnswer)}
}
