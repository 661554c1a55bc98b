package receiver

import (
	"gist/api"
	"gist/frame"
	"gist/state"
)

// context is what the receiver keeps of a flow.
type context struct {
	begun  bool // a whole frame came: there are a route, a turn and a state
	route  api.Route
	turn   uint8
	state  state.State
	missed uint8
}

// follow tells the context behind a frame, should the frame be believed.
func (c context) follow(f frame.Frame) context {
	next := context{begun: true, route: c.route, turn: f.At.Turn, state: f.Told}
	switch f.Kind {
	case api.Whole:
		next.route = f.Route
	case api.Short:
		next.state = afterShort(c.state, f.Told)
	case api.Tiny:
		next.state = afterTiny(c.state, f.Told)
	}
	return next
}

// refusal tells why a frame of which p was made again is not believed. A whole
// one needs nothing of the context.
func (c context) refusal(f frame.Frame, p api.Packet) api.Errno {
	if f.Kind != api.Whole && !c.begun {
		return api.ErrContext
	}
	if f.Kind != api.Whole && c.turn != f.At.Turn {
		return api.ErrTurn
	}
	if !f.Right(p) {
		return api.ErrCheck
	}
	return api.OK
}

func (c context) flow(cid int) api.Flow {
	return api.Flow{Cid: uint8(cid), Turn: c.turn, Route: c.route, Seq: c.state.Seq, Count: int(c.missed)}
}
