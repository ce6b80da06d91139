package bare_test

import (
	"strings"
	"testing"

	"estuary/api"
	"estuary/bare"
	"estuary/fault"
	"estuary/pack"
	"estuary/parts"
	"estuary/shard"
)

func whole() api.Shard {
	return api.Shard{ID: 70, Epoch: 3, Span: api.Span{From: "b", To: "d"}, Frozen: true,
		Cells:  []api.Cell{{Key: "b", Version: 2, Del: true, Floor: 1}, {Key: "c", Value: "v", Version: 1}},
		Events: []api.Event{{Key: "c", Version: 1, Value: "v"}, {Key: "b", Version: 2, Del: true}},
		Done:   []api.Done{{ID: 5, Answer: api.Answer{Code: 14, Rows: []api.Row{{Key: "c", Value: "v", Version: 1}}}}, {Session: 2, ID: 1}}}
}

// Byte by byte, and taken from the front.
func TestThereAndBack(t *testing.T) {
	wide := shard.New(1, 1, api.Span{})
	for i := range 70000 {
		wide.Cells = append(wide.Cells, api.Cell{Key: string([]byte{byte(i >> 16), byte(i >> 8), byte(i)})})
	}
	greatest := shard.New(api.MaxRev, api.MaxEpoch, api.Span{From: strings.Repeat("a", api.MaxKey), To: strings.Repeat("z", api.MaxKey)})
	greatest.Cells = []api.Cell{{Key: strings.Repeat("k", api.MaxKey), Value: strings.Repeat("v", api.MaxValue), Version: api.MaxRev, Floor: api.MaxRev}}
	for range api.MaxHistory {
		greatest.Events = append(greatest.Events, api.Event{Key: strings.Repeat("k", api.MaxKey), Version: api.MaxRev, Value: strings.Repeat("v", api.MaxValue)})
	}
	for range api.MaxSessions {
		greatest.Done = append(greatest.Done, api.Done{ID: api.MaxRev, Answer: api.Answer{Value: strings.Repeat("v", 255), Rows: make([]api.Row, api.MaxRows)}})
	}
	for _, x := range []struct {
		s    api.Shard
		want string
	}{
		{api.Shard{}, strings.Repeat("\x00", 8)},
		{shard.New(1, 2, api.Span{From: "z", To: "a"}), "\x01\x02\x01z\x01a\x00\x00\x00\x00"},
		{whole(), "\x46\x01\x03\x01b\x01d\x01" + "\x02\x01b\x00\x02\x01\x01\x01c\x01v\x01\x00\x00" + "\x02\x01c\x01\x01v\x00\x01b\x02\x00\x01" + "\x02\x00\x05\x0e\x00\x00\x01\x01c\x01v\x01\x02\x01\x00\x00\x00\x00"},
		{greatest, ""}, {wide, ""},
	} {
		put := bare.Bytes(x.s)
		k := parts.Taker{Left: put + "tail"}
		if got := bare.Take(&k); x.want != "" && put != x.want || !shard.Same(got, x.s) || k.Left != "tail" || k.Err != nil {
			t.Errorf("of %.200q: %v, %.20q", put, k.Err, k.Left)
		}
	}
}

// What is cut off is short; a list that is too long, or a text, is large; behind an error nothing is taken.
func TestErrors(t *testing.T) {
	put := bare.Bytes(whole())
	for at := range put {
		if k := (parts.Taker{Left: put[:at]}); isTaken(&k) || fault.Code(k.Err) != api.ErrShort {
			t.Errorf("cut off at %d: %v", at, k.Err)
		}
	}
	head := "\x01\x01\x00\x00\x00"
	for s, code := range map[string]api.Errno{
		"\x80": api.ErrForm, "\x01\x01\x00\x00\x02": api.ErrForm, head + "\x01\x09" + strings.Repeat("k", 9): api.ErrLarge, head + "\x01\x01k\x0d" + strings.Repeat("v", 13): api.ErrLarge,
		head + pack.Num(1<<48-1) + strings.Repeat("\x00", 50): api.ErrShort, head + "\x00\x19": api.ErrLarge, head + "\x00\x00\x04": api.ErrLarge, head + "\x00\x00\x01\x00\x01\x00\x00\x00\x11": api.ErrLarge,
	} {
		if k := (parts.Taker{Left: s}); isTaken(&k) || fault.Code(k.Err) != code {
			t.Errorf("of %q: %v, not %d", s, k.Err, code)
		}
	}
	if k := (parts.Taker{Left: put, Err: api.ErrSpoilt}); !shard.Same(bare.Take(&k), api.Shard{}) || k.Left != put || k.Err != api.ErrSpoilt {
		t.Errorf("behind an error: %+v", k)
	}
}

func isTaken(k *parts.Taker) bool {
	bare.Take(k)
	return k.Err == nil
}
