package frame

import (
	"gist/api"
	"gist/state"
	"gist/wire"
)

// Sizes in bytes.
const (
	endSize   = 3 // of STRIDE and the check, behind what a WHOLE or FULL frame says of the header
	shortSize = 4 // of what stands between the first byte and the body of a SHORT frame
)

// Frame is a frame taken apart.
type Frame struct {
	Kind  uint8
	At    Place
	Route api.Route   // in a WHOLE frame alone
	Told  state.State // in a SHORT or TINY frame the lowest bits alone; what it does not say is 0
	Check uint8
	Body  string
}

// Read takes a text apart, and tells whether it has the form of a frame.
func Read(text string) (Frame, bool) {
	if len(text) == 0 || text[0]&1 != 0 {
		return Frame{}, false
	}
	first := text[0]
	bare := Frame{Kind: first >> 6, At: Place{Cid: first >> 1 & 7, Turn: first >> 4 & 3}}
	f, is := bare.read(text[1:])
	if !is || len(f.Body) > api.MaxBody {
		return Frame{}, false
	}
	return f, true
}

// read tells the frame with what stands behind its first byte.
func (f Frame) read(text string) (Frame, bool) {
	switch f.Kind {
	case api.Whole:
		return f.readWhole(text)
	case api.Full:
		return f.readFull(text)
	case api.Short:
		return f.readShort(text)
	}
	return f.readTiny(text)
}

func (f Frame) readWhole(text string) (Frame, bool) {
	if len(text) < wire.HeaderSize {
		return Frame{}, false
	}
	p := wire.ReadHeader(text)
	f.Route = p.Route
	return f.readEnd(p, text[wire.HeaderSize:])
}

func (f Frame) readFull(text string) (Frame, bool) {
	if len(text) < wire.FieldsSize {
		return Frame{}, false
	}
	p := wire.ReadFields(text)
	return f.readEnd(p, text[wire.FieldsSize:])
}

// readEnd tells the frame with the state of p, whose STRIDE stands behind the
// header.
func (f Frame) readEnd(p api.Packet, text string) (Frame, bool) {
	if len(text) < endSize {
		return Frame{}, false
	}
	f.Told = state.Of(p, uint16(wire.Number(text[:2])))
	f.Check = text[2]
	f.Body = text[endSize:]
	return f, true
}

func (f Frame) readShort(text string) (Frame, bool) {
	if len(text) < shortSize || text[3]&128 != 0 {
		return Frame{}, false
	}
	f.Told.Seq = uint16(text[0])
	f.Told.Offset = uint16(text[1])
	f.Told.Lag = uint32(text[2])
	f.Check = text[3]
	f.Body = text[shortSize:]
	return f, true
}

func (f Frame) readTiny(text string) (Frame, bool) {
	if len(text) == 0 || text[0]&1 != 0 {
		return Frame{}, false
	}
	f.Told.Seq = uint16(text[0] >> 4)
	f.Check = text[0] >> 1 & 7
	f.Body = text[1:]
	return f, true
}

// Right tells whether the frame's check is that of the packet's header.
func (f Frame) Right(p api.Packet) bool {
	return f.Check == checkOf(f.Kind, wire.Header(p))
}
