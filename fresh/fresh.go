// Package fresh: copies that share no memory with what they are of, down to the Rows: for the layers that keep shards, ops and answers, or hand them on.
package fresh

import (
	"slices"

	"estuary/api"
)

// Answer: with Rows that are nobody else's.
func Answer(a api.Answer) api.Answer {
	a.Rows = slices.Clone(a.Rows)
	return a
}

// Op: with Writes that are nobody else's.
func Op(o api.Op) api.Op {
	o.Writes = slices.Clone(o.Writes)
	return o
}

// Done: one list behind the other, as a Done that is copied alone still shares its Rows.
func Done(lists ...[]api.Done) []api.Done {
	all := slices.Concat(lists...)
	for i, d := range all {
		all[i].Answer = Answer(d.Answer)
	}
	return all
}

// Shard: of what isn't Is, too.
func Shard(s api.Shard) api.Shard {
	s.Cells, s.Events, s.Done = slices.Clone(s.Cells), slices.Clone(s.Events), Done(s.Done)
	return s
}
