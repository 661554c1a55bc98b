package sender

import (
	"slices"
	"testing"

	"gist/api"
)

// sentAs sends packet n of a flow: its frame must tell this kind, turn and context.
func sentAs(t *testing.T, s *Sender, port uint16, n int, kind, turn, cid int) {
	t.Helper()
	f := send(t, s, regular(port, n))
	if int(f[0]) != 64*kind+16*turn+2*cid {
		t.Fatalf("flow %d, packet %d: %x, want kind %d, turn %d, context %d", port, n, f, kind, turn, cid)
	}
}

func TestContextsThatHadNoFlowComeFirst(t *testing.T) {
	for cids := 1; cids <= 8; cids++ {
		s := begun(t, cids, 1, 100)
		for port := range cids {
			sentAs(t, s, uint16(port), 1, api.Whole, 0, port)
			// However long ago the others were sent on.
			sentAs(t, s, uint16(port), 2, api.Full, 0, port)
		}
		for port := range cids {
			sentAs(t, s, uint16(port), 3, api.Tiny, 0, port)
		}
		for port := range cids {
			sentAs(t, s, uint16(100+port), 1, api.Whole, 1, port)
		}
	}
}

func TestLongestAgo(t *testing.T) {
	s := begun(t, 3, 1, 100)
	sentAs(t, s, 1, 1, api.Whole, 0, 0)
	sentAs(t, s, 2, 1, api.Whole, 0, 1)
	sentAs(t, s, 3, 1, api.Whole, 0, 2)
	sentAs(t, s, 1, 2, api.Full, 0, 0)
	sentAs(t, s, 4, 1, api.Whole, 1, 1) // 2 was sent longest ago
	sentAs(t, s, 3, 2, api.Full, 0, 2)
	sentAs(t, s, 2, 2, api.Whole, 1, 0) // then 1
	sentAs(t, s, 1, 3, api.Whole, 2, 1) // then 4
	sentAs(t, s, 4, 2, api.Whole, 1, 2) // then 3
	sentAs(t, s, 2, 3, api.Full, 1, 0)
	want := []api.Flow{
		{Cid: 0, Turn: 1, Route: regular(2, 0).Route, Seq: 3, Count: 2},
		{Cid: 1, Turn: 2, Route: regular(1, 0).Route, Seq: 3, Count: 1},
		{Cid: 2, Turn: 1, Route: regular(4, 0).Route, Seq: 2, Count: 1},
	}
	if l := s.Flows(); !slices.Equal(l, want) {
		t.Errorf("Flows() = %+v, want %+v", l, want)
	}
}

// Neither what is refused nor feedback is a packet that was sent.
func TestWhatIsNoPacketDoesNotMakeYoung(t *testing.T) {
	s := begun(t, 2, 1, 100)
	sentAs(t, s, 1, 1, api.Whole, 0, 0)
	sentAs(t, s, 2, 1, api.Whole, 0, 1)
	hear(t, s, "S\x00")
	hear(t, s, "D\x00")
	p := regular(1, 2)
	p.Body = string(make([]byte, 101))
	if _, e := s.Send(p); e != api.ErrLong {
		t.Fatalf("Send of 101 bytes: %d", e)
	}
	s.Flows()
	sentAs(t, s, 3, 1, api.Whole, 1, 0)
}

func TestTurnsGoRound(t *testing.T) {
	s := begun(t, 1, 1, 100)
	for n := range 13 {
		sentAs(t, s, uint16(n), 1, api.Whole, n%4, 0)
		sentAs(t, s, uint16(n), 2, api.Full, n%4, 0)
		sentAs(t, s, uint16(n), 3, api.Tiny, n%4, 0)
		if l := s.Flows(); len(l) != 1 || int(l[0].Turn) != n%4 {
			t.Errorf("flow %d: %+v", n, l)
		}
	}
	// Each context has its own turn.
	s = begun(t, 2, 1, 100)
	sentAs(t, s, 0, 1, api.Whole, 0, 0)
	for n := 1; n < 12; n++ {
		sentAs(t, s, uint16(n), 1, api.Whole, (n-1)%4, 1)
		send(t, s, regular(0, n+1))
		if l := s.Flows(); len(l) != 2 || l[0].Turn != 0 || int(l[1].Turn) != (n-1)%4 {
			t.Errorf("flow %d: %+v", n, l)
		}
	}
}

// A flow that comes back is a new one: nothing of what it was before, nor of
// the flow whose place it takes, is kept but the turn.
func TestARouteThatComesBack(t *testing.T) {
	for keep := 1; keep <= 4; keep++ {
		s := begun(t, 1, keep, 100)
		kinds(t, s, 1, 19)
		hear(t, s, "D\x00")
		for i := range keep {
			f := send(t, s, regular(2, 20+i))
			if want := min(10*i, 10); f[0]>>6 != api.Whole || strideIn(t, f) != want {
				t.Errorf("Keep %d: packet %d of the new flow: %x, want STRIDE %d", keep, i, f, want)
			}
		}
		sentAs(t, s, 2, 20+keep, api.Full, 1, 0) // for the STRIDE of the first
		sentAs(t, s, 2, 21+keep, api.Tiny, 1, 0) // the count FULL is that of the old flow
		for i := range keep {
			f := send(t, s, regular(1, 20+i))
			if want := min(10*i, 10); int(f[0]) != 64*3+16*2 || strideIn(t, f) != want {
				t.Errorf("Keep %d: packet %d of the flow that came back: %x, want STRIDE %d", keep, i, f, want)
			}
			want := []api.Flow{{Turn: 2, Route: regular(1, 0).Route, Seq: uint16(20 + i), Count: i + 1}}
			if l := s.Flows(); !slices.Equal(l, want) {
				t.Errorf("Keep %d: Flows() = %+v, want %+v", keep, l, want)
			}
		}
		sentAs(t, s, 1, 20+keep, api.Full, 2, 0)
		sentAs(t, s, 1, 21+keep, api.Tiny, 2, 0)
	}
}

// The route of noughts is one like any other, and not that of an empty context.
func TestRouteOfNoughts(t *testing.T) {
	s := begun(t, 2, 2, 100)
	f := send(t, s, api.Packet{Seq: 5})
	g := send(t, s, api.Packet{Seq: 5})
	if f[0] != 0xc0 || g[0] != 0xc0 || kind(t, s, api.Packet{Seq: 5}) != "t" {
		t.Errorf("the route of noughts: %x, %x", f, g)
	}
	if l := s.Flows(); !slices.Equal(l, []api.Flow{{Seq: 5, Count: 3}}) {
		t.Errorf("Flows() = %+v", l)
	}
	s = begun(t, 2, 1, 100)
	sentAs(t, s, 1, 1, api.Whole, 0, 0)
	if f := send(t, s, api.Packet{}); f[0] != 0xc2 {
		t.Errorf("the route of noughts behind another: %x", f)
	}
}

func TestRoutesThatDifferInOneField(t *testing.T) {
	routes := []api.Route{
		{Src: 1, Dst: 2, Port: 3}, {Src: 2, Dst: 1, Port: 3}, {Src: 1, Dst: 2, Port: 4}, {Src: 1, Dst: 3, Port: 3},
		{Src: 1 << 31, Dst: 2, Port: 3}, {Src: 1, Dst: 1<<31 | 2, Port: 3}, {Src: 1, Dst: 2, Port: 1<<15 | 3}, {Src: 0, Dst: 2, Port: 3},
	}
	s := begun(t, 8, 1, 100)
	for n := range 5 {
		for cid, route := range routes {
			f := send(t, s, api.Packet{Route: route, Seq: uint16(n)})
			if int(f[0]>>1&7) != cid || (f[0]>>6 == api.Whole) != (n == 0) {
				t.Errorf("packet %d of %+v: %x", n, route, f)
			}
		}
	}
	for cid, l := range s.Flows() {
		if l != (api.Flow{Cid: uint8(cid), Route: routes[cid], Seq: 4, Count: 5}) {
			t.Errorf("context %d: %+v", cid, l)
		}
	}
}

// Every order of a few routes on a few contexts.
func TestEveryOrderOfRoutes(t *testing.T) {
	const routes, length = 5, 7
	for cids := 1; cids <= 4; cids++ {
		orders := 1
		for range length {
			orders *= routes
		}
		for order := range orders {
			c := api.Config{Cids: cids, Keep: 1, Refresh: 100}
			s, _ := New(c)
			byAge := []uint16{}            // ports, longest ago first
			placeOf := map[uint16][2]int{} // context and turn of each
			for i, rest := 0, order; i < length; i, rest = i+1, rest/routes {
				port := uint16(rest % routes)
				if at := slices.Index(byAge, port); at >= 0 {
					byAge = slices.Delete(byAge, at, at+1)
				} else if len(byAge) < cids {
					placeOf[port] = [2]int{len(byAge), 0}
				} else {
					old := placeOf[byAge[0]]
					placeOf[port] = [2]int{old[0], (old[1] + 1) % 4}
					byAge = byAge[1:]
				}
				byAge = append(byAge, port)
				f := send(t, &s, regular(port, i))
				if want := placeOf[port]; int(f[0]>>1&7) != want[0] || int(f[0]>>4&3) != want[1] {
					t.Fatalf("Cids %d, order %d, packet %d of flow %d: %x, want context and turn %v", cids, order, i, port, f, want)
				}
			}
		}
	}
}
