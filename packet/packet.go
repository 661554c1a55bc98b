// Package packet: whole packets as texts, believed by their sum.
package packet

import (
	"gist/api"
	"gist/check"
	"gist/wire"
)

const (
	bodyStart = wire.HeaderSize + 1 // behind the header and the body's length
	sumSize   = 2
)

// Write makes a text of a packet.
func Write(p api.Packet) (string, api.Errno) {
	if len(p.Body) > api.MaxBody {
		return "", api.ErrLong
	}
	text := wire.Header(p) + wire.Text8(uint8(len(p.Body))) + p.Body
	return text + wire.Text16(check.Sum(text)), api.OK
}

// Read makes a packet of a text.
func Read(text string) (api.Packet, api.Errno) {
	if len(text) < bodyStart+sumSize {
		return api.Packet{}, api.ErrFrame
	}
	length := int(text[wire.HeaderSize])
	bodyEnd := bodyStart + length
	if len(text) != bodyEnd+sumSize {
		return api.Packet{}, api.ErrFrame
	}
	if length > api.MaxBody {
		return api.Packet{}, api.ErrLong
	}
	if text[bodyEnd:] != wire.Text16(check.Sum(text[:bodyEnd])) {
		return api.Packet{}, api.ErrSum
	}
	p := wire.ReadHeader(text)
	p.Body = text[bodyStart:bodyEnd]
	return p, api.OK
}
