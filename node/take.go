package node

import (
	"estuary/api"
	"estuary/image"
	"estuary/letter"
	"estuary/op"
	"estuary/shard"
	"estuary/span"
)

// mostPieces: of a greater image none goes on to another node.
const mostPieces = 1000

// Take: a letter may come late, or twice, so what it asks for may be done already; then it is answered as if it was done now.
func (n *Node) Take(l api.Letter) {
	if l.To != n.id || !letter.Is(l) {
		return
	}
	switch l.Kind {
	case api.LAsk:
		n.ask(l)
	case api.LPoll:
		n.poll(l)
	case api.LPush:
		n.push(l)
	case api.LInstall:
		n.install(l)
	default:
		n.turn(l)
	}
}

// turn: of a shard that is here, or was.
func (n *Node) turn(l api.Letter) {
	first := l.N[2]
	switch l.Kind {
	case api.LFreeze:
		n.freeze(l)
	case api.LPull:
		n.pull(l)
	case api.LThaw:
		n.thaw(l)
	case api.LDrop:
		n.drop(l)
	case api.LJoin: // it names the upper one ahead of the new one; else it is cut as by a split
		first = l.N[4]
		fallthrough
	case api.LSplit:
		n.cut(l, first)
	}
}

// ask: what was done already is told again, and no record is made of what changes nothing.
func (n *Node) ask(l api.Letter) {
	session, id := l.From-api.Sessions, l.N[0]
	if session < 0 || id < 1 {
		return
	}
	back := api.Letter{Kind: api.LAnswer, N: [5]int{id}}
	s, here := n.hold.Find(op.Key(l.Op))
	if !here {
		back.Answer.Code = int(api.ErrMoved)
		n.say(l, back)
		return
	}
	_, a, was := shard.Ask(s, session, id, l.Op)
	switch was {
	case 0:
		if op.Writes(l.Op) {
			var err error
			if a, err = n.do(api.Record{Kind: api.RAsk, N: [5]int{session, id}, Op: l.Op}); err != nil {
				return
			}
		}
		fallthrough
	case 1:
		back.Answer = a
		n.say(l, back)
	}
}

// poll: of a span that goes on elsewhere a part is told, and that it is one.
func (n *Node) poll(l api.Letter) {
	back := api.Letter{Kind: api.LFeed, N: [5]int{l.N[0], 0, l.N[2]}}
	s, here := n.hold.At(l.Span.From)
	if !here {
		back.N[3] = 2
		n.say(l, back)
		return
	}
	var compacted bool
	back.Events, compacted = shard.Feed(s, l.Span, l.Seen, l.N[1])
	back.Span, _ = span.Meet(s.Span, l.Span)
	if compacted {
		back.N[3] = 1
	}
	if !span.Within(l.Span, s.Span) {
		back.N[4] = 1
	}
	n.say(l, back)
}

// freeze: from here on its image stays as it is, and it is as long as ahead of that.
func (n *Node) freeze(l api.Letter) {
	s, here := n.it(l)
	if !here {
		return
	}
	if !s.Frozen {
		if _, err := n.do(record(api.RFreeze, l)); err != nil {
			return
		}
	}
	n.tell(l, api.LFrozen, len(image.Pieces(image.Bytes(s))))
}

// pull: of one that isn't frozen the pieces might be of unlike images.
func (n *Node) pull(l api.Letter) {
	s, here := n.it(l)
	if !here || !s.Frozen {
		return
	}
	pieces := image.Pieces(image.Bytes(s))
	if at := l.N[2]; at < len(pieces) {
		n.say(l, api.Letter{Kind: api.LPiece, N: [5]int{l.N[0], l.N[1], at}, Data: pieces[at]})
	}
}

// push: one shard comes at once, as there is one mover.
func (n *Node) push(l api.Letter) {
	if l.N[2] >= mostPieces {
		return
	}
	if of := [2]int{l.N[0], l.N[1]}; of != n.of {
		n.of = of
		clear(n.came)
	}
	n.came[l.N[2]] = l.Data
	n.tell(l, api.LPushed, l.N[2])
}

// install: the hold refuses what is there, was there or isn't whole; so it is tried first, and then looked for.
func (n *Node) install(l api.Letter) {
	r := record(api.RInstall, l)
	r.Data = n.together(l)
	if !n.hadRoom(r) {
		return
	}
	lack := 1
	if s, here := n.hold.Get(l.N[0]); n.wasGiven(l) || here && s.Epoch >= l.N[1] {
		lack = 0
	}
	n.tell(l, api.LInstalled, lack)
}

// together: nothing, which is no image, where a piece lacks.
func (n *Node) together(l api.Letter) string {
	if n.of != [2]int{l.N[0], l.N[1]} {
		return ""
	}
	var p []string
	for i := range l.N[2] {
		piece, kept := n.came[i]
		if !kept {
			return ""
		}
		p = append(p, piece)
	}
	return image.Join(p)
}

// thaw: by a record that was done its epoch is above, too.
func (n *Node) thaw(l api.Letter) {
	n.do(record(api.RThaw, l))
	if s, here := n.hold.Get(l.N[0]); here && s.Epoch > l.N[1] {
		n.tell(l, api.LThawed)
	}
}

// drop: what counts is that it is gone, now or long ago.
func (n *Node) drop(l api.Letter) {
	n.do(record(api.RDrop, l))
	if _, here := n.it(l); !here {
		n.tell(l, api.LDropped)
	}
}

// cut: by a record that was done the old one was given away, too.
func (n *Node) cut(l api.Letter, first int) {
	r := api.Record{Kind: api.RSplit, N: l.N, Key: l.Span.From}
	if l.Kind == api.LJoin {
		r.Kind = api.RJoin
	}
	if !n.hadRoom(r) {
		return
	}
	not := 1
	if n.wasGiven(l) {
		not = 0
	}
	n.tell(l, api.LCut, not, first)
}

// it: the shard that l means; of another epoch it is another one.
func (n *Node) it(l api.Letter) (api.Shard, bool) {
	s, here := n.hold.Get(l.N[0])
	if !here || s.Epoch != l.N[1] {
		return api.Shard{}, false
	}
	return s, true
}

func (n *Node) wasGiven(l api.Letter) bool { return n.hold.Gone(l.N[0]) >= l.N[1] }

// record: of the shard that l means.
func record(kind int, l api.Letter) api.Record {
	return api.Record{Kind: kind, N: [5]int{l.N[0], l.N[1]}}
}

// tell: of the shard that l means.
func (n *Node) tell(l api.Letter, kind int, rest ...int) {
	back := api.Letter{Kind: kind, N: [5]int{l.N[0], l.N[1]}}
	copy(back.N[2:], rest)
	n.say(l, back)
}

// say: it waits, as what it tells may not be synced yet.
func (n *Node) say(l, back api.Letter) {
	back.From, back.To = n.id, l.From
	n.waits = append(n.waits, back)
}
