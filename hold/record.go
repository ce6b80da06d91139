package hold

import (
	"errors"
	"math"
	"slices"

	"estuary/api"
	"estuary/bare"
	"estuary/op"
	"estuary/pack"
	"estuary/parts"
	"estuary/refuse"
	"estuary/shard"
)

const half = 32 // bits

// Bytes: all but the Op is written of each Kind, so that all Kinds are read in one way.
func Bytes(r api.Record) string {
	if !isRecord(r) {
		return ""
	}
	numbers := ""
	for _, n := range r.N {
		numbers += pack.Num(n)
	}
	return pack.Num(r.Kind) + numbers + op.Bytes(r.Op) + pack.Text(r.Key) + pack.Text(r.Data) +
		parts.Bytes(r.Shards, bare.Bytes) + parts.Bytes(r.Gone, goneBytes)
}

// Read: what is taken is written again, and must come out as s: no byte is behind it then, and it is a record.
func Read(s string) (api.Record, error) {
	t := parts.Taker{Left: s}
	r := take(&t)
	var why api.Errno
	switch {
	case errors.As(t.Err, &why): // there are no bytes of it, so nothing is to be held against s
	case Bytes(r) != s:
		why = api.ErrForm
	default:
		return r, nil
	}
	return api.Record{}, refuse.By("hold.Read", why)
}

// take: whether it is a record is for Read to see. Data and Gone may be as long as one likes, but they have bytes, so it ends with these.
func take(t *parts.Taker) api.Record {
	r := api.Record{Kind: t.Num()}
	for i := range r.N {
		r.N[i] = t.Num()
	}
	if r.Kind == api.RAsk {
		r.Op = parts.By(t, op.Read)
	}
	r.Key = t.Text(api.MaxKey)
	r.Data = t.Text(math.MaxInt)
	r.Shards = parts.List(t, api.MaxShards, bare.Take)
	r.Gone = parts.List(t, math.MaxInt, takeGone)
	return r
}

// isRecord: what a Kind alone may have is looked at and taken away; then nothing of it may be left.
func isRecord(r api.Record) bool {
	good := len(r.Key) <= api.MaxKey && all(r.N[:], isNumber)
	switch r.Kind {
	case api.RBase:
		good = good && len(r.Shards) <= api.MaxShards && all(r.Shards, shard.Is)
		r.Shards, r.Gone = nil, nil
	case api.RAsk:
		good = good && op.Is(r.Op)
		r.Op = api.Op{}
	case api.RFreeze, api.RThaw, api.RInstall, api.RDrop, api.RSplit, api.RJoin:
	default:
		return false
	}
	return good && op.Same(r.Op, api.Op{}) && len(r.Shards) == 0 && len(r.Gone) == 0
}

func isNumber(n int) bool { return n >= 0 && n <= api.MaxRev }

func goneBytes(g api.Gone) string { return intBytes(g.ID) + intBytes(g.Epoch) }

func takeGone(t *parts.Taker) api.Gone { return api.Gone{ID: takeInt(t), Epoch: takeInt(t)} }

// intBytes: in two halves, as a Gone's numbers may be any, and pack takes neither one below 0 nor one of more than 48 bits.
func intBytes(n int) string { return pack.Num(int(uint32(n))) + pack.Num(int(uint64(n)>>half)) }

func takeInt(t *parts.Taker) int {
	low, high := t.Num(), t.Num()
	return int(uint64(high)<<half | uint64(low))
}

func all[T any](l []T, is func(T) bool) bool {
	return !slices.ContainsFunc(l, func(x T) bool { return !is(x) })
}
