// Package wire: numbers and headers as bytes.
package wire

import "gist/api"

// How many bytes a header has, and how many of them stand behind the route.
const (
	HeaderSize = routeSize + FieldsSize
	FieldsSize = 9
	routeSize  = 10
)

// Text8 tells a number of 8 bits as a byte.
func Text8(n uint8) string {
	return string([]byte{n})
}

// Text16 tells a number of 16 bits as two bytes.
func Text16(n uint16) string {
	return string([]byte{uint8(n >> 8), uint8(n)})
}

// Text32 tells a number of 32 bits as four bytes.
func Text32(n uint32) string {
	return Text16(uint16(n>>16)) + Text16(uint16(n))
}

// Number tells the number that the bytes of a text make; of more than four
// bytes only the last four count.
func Number(text string) uint32 {
	n := uint32(0)
	for i := 0; i < len(text); i++ {
		n = n<<8 | uint32(text[i])
	}
	return n
}

// Header tells all of a packet but its body.
func Header(p api.Packet) string {
	route := Text32(p.Src) + Text32(p.Dst) + Text16(p.Port)
	return route + Fields(p)
}

// Fields tells what stands behind the route in a packet's header.
func Fields(p api.Packet) string {
	return Text16(p.Seq) + Text32(p.Time) + Text16(p.Id) + Text8(p.Flags)
}

// ReadHeader makes a packet without a body of the header with which a text
// begins. A text that is too short for one gives a packet of noughts.
func ReadHeader(text string) api.Packet {
	if len(text) < HeaderSize {
		return api.Packet{}
	}
	p := ReadFields(text[routeSize:])
	p.Src = Number(text[0:4])
	p.Dst = Number(text[4:8])
	p.Port = uint16(Number(text[8:10]))
	return p
}

// ReadFields makes a packet without a route and a body of the fields with
// which a text begins. A text that is too short gives a packet of noughts.
func ReadFields(text string) api.Packet {
	if len(text) < FieldsSize {
		return api.Packet{}
	}
	var p api.Packet
	p.Seq = uint16(Number(text[0:2]))
	p.Time = Number(text[2:6])
	p.Id = uint16(Number(text[6:8]))
	p.Flags = text[8]
	return p
}
