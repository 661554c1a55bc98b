package packet

import (
	"encoding/binary"
	"math/rand"
	"strings"
	"testing"

	"gist/api"
)

// slowSum reckons without check: it casts out 65535s in the end.
func slowSum(text string) uint16 {
	total := 0
	for i := range len(text) {
		total += int(text[i]) << (8 * (1 - i%2))
	}
	if total > 0 {
		total = (total-1)%65535 + 1
	}
	return uint16(65535 - total)
}

// withSum lays the right sum behind a text.
func withSum(text string) string {
	return string(binary.BigEndian.AppendUint16([]byte(text), slowSum(text)))
}

// slowWrite follows the document's words, at bodies of up to 255 bytes.
func slowWrite(p api.Packet) string {
	var b []byte
	b = binary.BigEndian.AppendUint32(b, p.Src)
	b = binary.BigEndian.AppendUint32(b, p.Dst)
	b = binary.BigEndian.AppendUint16(b, p.Port)
	b = binary.BigEndian.AppendUint16(b, p.Seq)
	b = binary.BigEndian.AppendUint32(b, p.Time)
	b = binary.BigEndian.AppendUint16(b, p.Id)
	b = append(b, p.Flags, byte(len(p.Body)))
	return withSum(string(b) + p.Body)
}

func randomPacket(r *rand.Rand, length int) api.Packet {
	body := make([]byte, length)
	r.Read(body)
	route := api.Route{Src: r.Uint32(), Dst: r.Uint32(), Port: uint16(r.Uint32())}
	return api.Packet{Route: route, Seq: uint16(r.Uint32()), Time: r.Uint32(), Id: uint16(r.Uint32()), Flags: uint8(r.Uint32()), Body: string(body)}
}

func refused(t *testing.T, what string, text string, want api.Errno) {
	t.Helper()
	if p, e := Read(text); p != (api.Packet{}) || e != want {
		t.Errorf("%s: Read of %d bytes = %+v, %d, want %d", what, len(text), p, e, want)
	}
}

func TestP5Ordinary(t *testing.T) {
	p := api.Packet{Route: api.Route{Src: 0x0a000001, Dst: 0x0a0000fe, Port: 8080}, Seq: 7, Time: 70000, Id: 300, Flags: 3, Body: "ok"}
	want := "\x0a\x00\x00\x01\x0a\x00\x00\xfe\x1f\x90\x00\x07\x00\x01\x11\x70\x01\x2c\x03\x02ok\x46\x5f"
	if s, e := Write(p); s != want || e != api.OK {
		t.Errorf("Write = %x, %d, want %x", s, e, want)
	}
	if q, e := Read(want); q != p || e != api.OK {
		t.Errorf("Read = %+v, %d, want %+v", q, e, p)
	}
}

func TestP5Noughts(t *testing.T) {
	want := strings.Repeat("\x00", 20) + "\xff\xff"
	if s, e := Write(api.Packet{}); s != want || e != api.OK {
		t.Errorf("Write = %x, %d", s, e)
	}
	if p, e := Read(want); p != (api.Packet{}) || e != api.OK {
		t.Errorf("Read = %+v, %d", p, e)
	}
	// Noughts would add up right with this sum too, but it is another one.
	refused(t, "a sum of noughts", strings.Repeat("\x00", 22), api.ErrSum)
}

func TestP5EachLengthThereAndBack(t *testing.T) {
	r := rand.New(rand.NewSource(51))
	for length := range 101 {
		for range 20 {
			p := randomPacket(r, length)
			s, e := Write(p)
			if s != slowWrite(p) || len(s) != 22+length || e != api.OK {
				t.Fatalf("Write(%+v) = %x, %d, want %x", p, s, e, slowWrite(p))
			}
			if q, e := Read(s); q != p || e != api.OK {
				t.Fatalf("Read(%x) = %+v, %d, want %+v", s, q, e, p)
			}
		}
	}
}

func TestP5WriteLongBodies(t *testing.T) {
	for _, length := range []int{101, 102, 127, 128, 255, 256, 257, 300, 356, 357, 65536, 65636, 9000000} {
		if s, e := Write(api.Packet{Seq: 5, Body: strings.Repeat("b", length)}); s != "" || e != api.ErrLong {
			t.Errorf("a body of %d: %d bytes, %d", length, len(s), e)
		}
	}
}

// Up to 21 bytes there is no packet, whatever byte 19 says and the sum is.
func TestP5ReadShortTexts(t *testing.T) {
	for length := range 20 {
		for _, b := range []string{"\x00", "\x01", "\xff"} {
			text := strings.Repeat(b, length)
			refused(t, "without a sum", text, api.ErrFrame)
			refused(t, "with a sum", withSum(text), api.ErrFrame)
		}
	}
	text := withSum(strings.Repeat("\x00", 20))
	for length := range 22 {
		refused(t, "the front of a packet", text[:length], api.ErrFrame)
	}
}

func TestP5ReadOtherLengths(t *testing.T) {
	for says := range 256 {
		for has := range 300 {
			if has == says {
				continue
			}
			text := strings.Repeat("h", 19) + string([]byte{byte(says)}) + strings.Repeat("b", has)
			refused(t, "not as long as it says, the sum right", withSum(text), api.ErrFrame)
		}
	}
	r := rand.New(rand.NewSource(52))
	for _, length := range []int{0, 1, 50, 99, 100} {
		s := slowWrite(randomPacket(r, length))
		refused(t, "one byte more", s+"\x00", api.ErrFrame)
		refused(t, "one byte fewer", s[:len(s)-1], api.ErrFrame)
		refused(t, "256 bytes more", s+strings.Repeat("\x00", 256), api.ErrFrame)
	}
	refused(t, "very long", strings.Repeat("x", 9000000), api.ErrFrame)
}

// A text can be too long, of another length than it says, and wrong in its
// sum: the length that it says comes first, then its bound, then the sum.
func TestP5ReadLongBodies(t *testing.T) {
	for length := 101; length < 256; length++ {
		s := slowWrite(api.Packet{Id: 9, Body: strings.Repeat("b", length)})
		refused(t, "the sum right", s, api.ErrLong)
		refused(t, "the sum wrong", s[:len(s)-2]+"\x00\x00", api.ErrLong)
		refused(t, "one byte more", s+"b", api.ErrFrame)
		refused(t, "one byte fewer", s[:len(s)-1], api.ErrFrame)
	}
}

func TestP5ReadEachBitTurned(t *testing.T) {
	r := rand.New(rand.NewSource(53))
	for _, length := range []int{0, 1, 2, 99, 100} {
		s := slowWrite(randomPacket(r, length))
		for i := range len(s) {
			for bit := range 8 {
				b := []byte(s)
				b[i] ^= 1 << bit
				want := api.ErrSum
				if i == 19 {
					want = api.ErrFrame
				}
				refused(t, "a bit turned", string(b), want)
			}
		}
	}
}

func TestP5ReadOtherSums(t *testing.T) {
	p := api.Packet{Seq: 1, Body: "odd"}
	s := slowWrite(p)
	for n := range 65536 {
		text := s[:23] + string([]byte{byte(n >> 8), byte(n)})
		if text != s {
			refused(t, "another sum", text, api.ErrSum)
		}
	}
	swapped := s[:23] + s[24:] + s[23:24]
	refused(t, "the lower byte first", swapped, api.ErrSum)
}
