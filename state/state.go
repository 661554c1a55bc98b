// Package state: what is kept of a flow's packet, so that a later one can be
// told by what is new in it.
package state

import "gist/api"

// State is a flow's state.
type State struct {
	Seq, Stride, Offset uint16
	Lag                 uint32
	Flags               uint8
}

// Of tells the state that a packet leaves behind.
func Of(p api.Packet, stride uint16) State {
	return State{
		Seq:    p.Seq,
		Stride: stride,
		Offset: p.Id - p.Seq,
		Lag:    p.Time - way(stride, p.Seq),
		Flags:  p.Flags,
	}
}

// Time tells the Time of the packet that left this state.
func (s State) Time() uint32 {
	return s.Lag + way(s.Stride, s.Seq)
}

// Packet makes the packet that left this state again, with the route and the
// body of which the state tells nothing.
func (s State) Packet(route api.Route, body string) api.Packet {
	return api.Packet{
		Route: route,
		Seq:   s.Seq,
		Time:  s.Time(),
		Id:    s.Offset + s.Seq,
		Flags: s.Flags,
		Body:  body,
	}
}

// way is 32 bits wide, as the Time from which it is taken: cut to 16 bits it
// would change the lag of a flow that goes on regularly.
func way(stride uint16, seq uint16) uint32 {
	return uint32(stride) * uint32(seq)
}
