package state

import (
	"testing"

	"gist/api"
)

func TestOf(t *testing.T) {
	for _, c := range []struct {
		p      api.Packet
		stride uint16
		want   State
	}{
		{api.Packet{}, 0, State{}},
		{api.Packet{Seq: 3, Time: 120, Id: 13, Flags: 7}, 10, State{Seq: 3, Stride: 10, Offset: 10, Lag: 90, Flags: 7}},
		{api.Packet{Seq: 3, Time: 120, Id: 13}, 0, State{Seq: 3, Offset: 10, Lag: 120}},
		{api.Packet{Seq: 10, Time: 5, Id: 9, Flags: 255}, 1, State{Seq: 10, Stride: 1, Offset: 65535, Lag: 4294967291, Flags: 255}},
		// STRIDE times Seq above 16 bits.
		{api.Packet{Seq: 256, Time: 65536, Id: 0}, 256, State{Seq: 256, Stride: 256, Offset: 65280}},
		{api.Packet{Seq: 65535, Time: 4294836225, Id: 65535}, 65535, State{Seq: 65535, Stride: 65535}},
		{api.Packet{Seq: 65535, Time: 1, Id: 0}, 65535, State{Seq: 65535, Stride: 65535, Offset: 1, Lag: 0x20000}},
	} {
		if s := Of(c.p, c.stride); s != c.want {
			t.Errorf("Of(%+v, %d) = %+v, want %+v", c.p, c.stride, s, c.want)
		}
	}
}

func TestRouteAndBodyAreNotOfTheState(t *testing.T) {
	p := api.Packet{Seq: 3, Time: 120, Id: 13, Flags: 7}
	q := p
	q.Route = api.Route{Src: 1, Dst: 2, Port: 3}
	q.Body = "body"
	if Of(p, 10) != Of(q, 10) {
		t.Errorf("%+v, %+v", Of(p, 10), Of(q, 10))
	}
}

func TestTime(t *testing.T) {
	numbers := []uint32{0, 1, 2, 255, 256, 32767, 32768, 65534, 65535, 65536, 1 << 31, 4294836225, 4294967294, 4294967295}
	for _, time := range numbers {
		for _, seq := range numbers {
			for _, stride := range numbers {
				s := Of(api.Packet{Seq: uint16(seq), Time: time}, uint16(stride))
				if s.Time() != time {
					t.Fatalf("Seq %d, STRIDE %d, Time %d: told as %d", uint16(seq), uint16(stride), time, s.Time())
				}
			}
		}
	}
}

// Of packets that go on regularly OFFSET and LAG stay the same.
func TestARegularFlow(t *testing.T) {
	for _, stride := range []uint32{0, 1, 10, 255, 256, 40000, 65535} {
		time, id := uint32(4294000000), uint16(65000)
		want := Of(api.Packet{Time: time, Id: id}, uint16(stride))
		for seq := range uint32(65536) {
			s := Of(api.Packet{Seq: uint16(seq), Time: time + stride*seq, Id: id + uint16(seq)}, uint16(stride))
			if s.Offset != want.Offset || s.Lag != want.Lag || s.Stride != want.Stride || s.Seq != uint16(seq) {
				t.Fatalf("STRIDE %d, Seq %d: %+v", stride, seq, s)
			}
		}
	}
}

func TestPacket(t *testing.T) {
	route := api.Route{Src: 1, Dst: 2, Port: 3}
	for _, c := range []struct {
		s    State
		want api.Packet
	}{
		{State{}, api.Packet{}},
		{State{Seq: 3, Stride: 10, Offset: 10, Lag: 90, Flags: 7}, api.Packet{Seq: 3, Time: 120, Id: 13, Flags: 7}},
		{State{Seq: 10, Stride: 1, Offset: 65535, Lag: 4294967291, Flags: 255}, api.Packet{Seq: 10, Time: 5, Id: 9, Flags: 255}},
		{State{Seq: 256, Stride: 256, Offset: 65280}, api.Packet{Seq: 256, Time: 65536}},
		{State{Seq: 65535, Stride: 65535}, api.Packet{Seq: 65535, Time: 4294836225, Id: 65535}},
		{State{Seq: 65535, Stride: 65535, Offset: 1, Lag: 0x20000}, api.Packet{Seq: 65535, Time: 1}},
	} {
		c.want.Route, c.want.Body = route, "body"
		if p := c.s.Packet(route, "body"); p != c.want {
			t.Errorf("%+v: %+v, want %+v", c.s, p, c.want)
		}
	}
}

func TestPacketsComeBack(t *testing.T) {
	numbers := []uint32{0, 1, 255, 32768, 65535, 65536, 1 << 31, 4294836225, 4294967295}
	for _, time := range numbers {
		for _, seq := range numbers {
			for _, id := range numbers {
				for _, stride := range numbers {
					p := api.Packet{Route: api.Route{Src: id, Dst: seq, Port: 9}, Seq: uint16(seq), Time: time, Id: uint16(id), Flags: uint8(id), Body: "body"}
					if q := Of(p, uint16(stride)).Packet(p.Route, p.Body); q != p {
						t.Fatalf("STRIDE %d: %+v comes back as %+v", uint16(stride), p, q)
					}
				}
			}
		}
	}
}
