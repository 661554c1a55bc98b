package sender

import (
	"gist/api"
	"gist/frame"
	"gist/state"
)

const turns = 4

// context is what the sender keeps of a flow. It has a flow once a state is
// kept in it, and from then on.
type context struct {
	route  api.Route
	turn   uint8
	count  int                      // packets of this flow
	rank   int                      // how many contexts were sent on since the last packet of this one
	whole  int                      // packets that must still be sent whole
	full   int                      // packets that must still be sent full
	age    int                      // packets since the last whole one
	states [api.MaxKeep]state.State // the last one first
	kept   int                      // how many of the states count
}

func (c context) has(route api.Route) bool {
	return c.kept > 0 && c.route == route
}

// begin tells the context with a new flow in the place of the one it had. The
// rank stays: the new flow has not been sent on yet.
func (c context) begin(route api.Route, keep int) context {
	turn := c.turn
	if c.kept > 0 {
		turn = (turn + 1) % turns
	}
	return context{route: route, turn: turn, rank: c.rank, whole: keep}
}

// stride tells the stride of the packet that comes next.
func (c context) stride(p api.Packet) uint16 {
	if c.kept == 0 {
		return 0
	}
	last := c.states[0]
	if last.Seq+1 != p.Seq {
		return last.Stride
	}
	return uint16(p.Time - last.Time())
}

// kind tells the kind of frame that the packet that comes next is sent in.
func (c context) kind(next state.State, refresh int) uint8 {
	if c.whole > 0 || c.age >= refresh-1 {
		return api.Whole
	}
	if c.full > 0 {
		return api.Full
	}
	return c.least(next)
}

// least tells the kind that says least. Each of the states must serve as the
// reference: the sender cannot know which of its last frames came.
func (c context) least(next state.State) uint8 {
	kind := uint8(api.Tiny)
	for i := 0; i < c.kept && i < len(c.states); i++ {
		needed := needs(next, c.states[i])
		if needed > kind {
			kind = needed
		}
	}
	return kind
}

// sent tells the context behind a packet.
func (c context) sent(kind uint8, next state.State, keep int) context {
	c.count++
	c.rank = 0
	c.age++
	switch kind {
	case api.Whole:
		c.age = 0
		c.whole = oneLess(c.whole)
	case api.Full:
		c.full = oneLess(c.full)
	}
	return c.add(next, keep)
}

// oneLess leaves 0 as it is: not only a count asks for a whole or full frame.
func oneLess(count int) int {
	if count > 0 {
		return count - 1
	}
	return 0
}

// add tells the context with one state more; none is kept beyond the last keep.
func (c context) add(next state.State, keep int) context {
	for i := len(c.states) - 1; i > 0; i-- {
		if i < keep {
			c.states[i] = c.states[i-1]
		}
	}
	c.states[0] = next
	if c.kept < keep {
		c.kept++
	}
	return c
}

func (c context) place(cid int) frame.Place {
	return frame.Place{Cid: uint8(cid), Turn: c.turn}
}

func (c context) flow(cid int) api.Flow {
	return api.Flow{Cid: uint8(cid), Turn: c.turn, Route: c.route, Seq: c.states[0].Seq, Count: c.count}
}
