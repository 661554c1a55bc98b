// Package frame: packets as frames of the four kinds.
package frame

import (
	"gist/api"
	"gist/state"
	"gist/wire"
)

// Place is where a frame belongs: a context, and which of its flows in turn.
type Place struct {
	Cid, Turn uint8
}

// Make makes the frame of a packet whose state is s.
func Make(kind uint8, at Place, p api.Packet, s state.State) string {
	first := wire.Text8(kind<<6 | at.Turn<<4 | at.Cid<<1)
	return first + told(kind, p, s) + p.Body
}

// told tells what stands between a frame's first byte and its body.
func told(kind uint8, p api.Packet, s state.State) string {
	header := wire.Header(p)
	sum := checkOf(kind, header)
	switch kind {
	case api.Whole:
		return header + wire.Text16(s.Stride) + wire.Text8(sum)
	case api.Full:
		return wire.Fields(p) + wire.Text16(s.Stride) + wire.Text8(sum)
	case api.Short:
		low := wire.Text8(uint8(s.Seq)) + wire.Text8(uint8(s.Offset)) + wire.Text8(uint8(s.Lag))
		return low + wire.Text8(sum)
	}
	return wire.Text8(uint8(s.Seq)<<4 | sum<<1)
}
