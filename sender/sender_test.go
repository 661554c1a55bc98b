package sender

import (
	"math"
	"slices"
	"strings"
	"testing"

	"gist/api"
)

func begun(t *testing.T, cids, keep, refresh int) *Sender {
	t.Helper()
	s, e := New(api.Config{Cids: cids, Keep: keep, Refresh: refresh})
	if e != api.OK {
		t.Fatalf("New(%d, %d, %d): %d", cids, keep, refresh, e)
	}
	return &s
}

// regular is packet n of a flow that goes on regularly: STRIDE 10, OFFSET 7,
// LAG 1000. Both stay where Seq goes past 65535.
func regular(port uint16, n int) api.Packet {
	seq := uint16(n)
	route := api.Route{Src: 1, Dst: 2, Port: port}
	return api.Packet{Route: route, Seq: seq, Time: 1000 + 10*uint32(seq), Id: 7 + seq}
}

func send(t *testing.T, s *Sender, p api.Packet) string {
	t.Helper()
	f, e := s.Send(p)
	if e != api.OK || len(f) < 2 {
		t.Fatalf("Send(%+v) = %x, %d", p, f, e)
	}
	return f
}

// kind sends a packet and tells the kind of its frame as a letter.
func kind(t *testing.T, s *Sender, p api.Packet) string {
	t.Helper()
	return []string{"t", "s", "F", "W"}[send(t, s, p)[0]>>6]
}

// kinds sends the packets from one number of a regular flow up to another.
func kinds(t *testing.T, s *Sender, from, to int) string {
	t.Helper()
	l := ""
	for n := from; n <= to; n++ {
		l += kind(t, s, regular(1, n))
	}
	return l
}

func hear(t *testing.T, s *Sender, feedback string) {
	t.Helper()
	if e := s.Hear(feedback); e != api.OK {
		t.Fatalf("Hear(%q) = %d", feedback, e)
	}
}

func wants(t *testing.T, what, got, want string) {
	t.Helper()
	if got != want {
		t.Errorf("%s: %s, want %s", what, got, want)
	}
}

func TestNew(t *testing.T) {
	for _, c := range []struct {
		config api.Config
		want   api.Errno
	}{
		{api.Config{Cids: 1, Keep: 1, Refresh: 2}, api.OK}, {api.Config{Cids: 8, Keep: 4, Refresh: 100}, api.OK}, {api.Config{Cids: 3, Keep: 2, Refresh: 9}, api.OK},
		{api.Config{Cids: 0, Keep: 1, Refresh: 2}, api.ErrConfig}, {api.Config{Cids: 9, Keep: 4, Refresh: 100}, api.ErrConfig},
		{api.Config{Cids: 1, Keep: 0, Refresh: 2}, api.ErrConfig}, {api.Config{Cids: 8, Keep: 5, Refresh: 100}, api.ErrConfig},
		{api.Config{Cids: 1, Keep: 1, Refresh: 1}, api.ErrConfig}, {api.Config{Cids: 8, Keep: 4, Refresh: 101}, api.ErrConfig},
		{api.Config{}, api.ErrConfig}, {api.Config{Cids: math.MinInt, Keep: math.MaxInt, Refresh: math.MinInt}, api.ErrConfig},
	} {
		s, e := New(c.config)
		if e != c.want || s.Flows() != nil || (e != api.OK && s != Sender{}) {
			t.Errorf("New(%+v) = %+v, %d, want %d", c.config, s, e, c.want)
		}
	}
}

func TestFlows(t *testing.T) {
	s := begun(t, 3, 2, 9)
	for n := 1; n <= 40; n++ {
		send(t, s, regular(1, n))
		want := []api.Flow{{Route: regular(1, 0).Route, Seq: uint16(n), Count: n}}
		if l := s.Flows(); !slices.Equal(l, want) {
			t.Fatalf("Flows() = %+v, want %+v", l, want)
		}
	}
	send(t, s, regular(2, 65535))
	send(t, s, regular(3, 7))
	send(t, s, regular(2, 65535))
	want := []api.Flow{
		{Cid: 0, Route: regular(1, 0).Route, Seq: 40, Count: 40},
		{Cid: 1, Route: regular(2, 0).Route, Seq: 65535, Count: 2},
		{Cid: 2, Route: regular(3, 0).Route, Seq: 7, Count: 1},
	}
	if l := s.Flows(); !slices.Equal(l, want) {
		t.Errorf("Flows() = %+v, want %+v", l, want)
	}
	send(t, s, regular(4, 9))
	want[0] = api.Flow{Cid: 0, Turn: 1, Route: regular(4, 0).Route, Seq: 9, Count: 1}
	if l := s.Flows(); !slices.Equal(l, want) {
		t.Errorf("Flows() = %+v, want %+v", l, want)
	}
}

func TestFlowsIsNewMemory(t *testing.T) {
	s := begun(t, 8, 1, 9)
	for port := range 5 {
		send(t, s, regular(uint16(port), 1))
	}
	earlier := s.Flows()
	want := slices.Clone(earlier)
	l := s.Flows()
	l = l[:cap(l)]
	for i := range l {
		l[i] = api.Flow{Cid: 77, Count: 77}
	}
	if !slices.Equal(earlier, want) || !slices.Equal(s.Flows(), want) {
		t.Errorf("earlier %+v, later %+v, want %+v", earlier, s.Flows(), want)
	}
	for port := range 8 {
		send(t, s, regular(uint16(port), 2))
	}
	if !slices.Equal(earlier, want) {
		t.Errorf("a list that came out is %+v now, was %+v", earlier, want)
	}
	if len(s.Flows()) != 8 {
		t.Errorf("Flows() = %+v", s.Flows())
	}
}

func TestBodies(t *testing.T) {
	for _, length := range []int{0, 1, 99, 100, 101, 102, 255, 256, 65536 + 50, 1 << 20} {
		s := begun(t, 1, 1, 9)
		p := regular(1, 1)
		p.Body = strings.Repeat("b", length)
		f, e := s.Send(p)
		if length <= 100 {
			if e != api.OK || len(f) != 23+length || f[23:] != p.Body {
				t.Errorf("a body of %d: %x, %d", length, f, e)
			}
			continue
		}
		if f != "" || e != api.ErrLong || s.Flows() != nil {
			t.Errorf("a body of %d: %d bytes, %d, %+v", length, len(f), e, s.Flows())
		}
	}
}

// What is refused leaves no trace: a sender that refused many things goes on
// as one that was not asked.
func TestRefusalsChangeNothing(t *testing.T) {
	long := strings.Repeat("b", 101)
	ask := func(s *Sender, port, n int) {
		for _, q := range []api.Packet{regular(uint16(port), n), regular(uint16(port+1), n), regular(99, 9), {}} {
			q.Body = long
			if f, e := s.Send(q); f != "" || e != api.ErrLong {
				t.Fatalf("Send of 101 bytes = %x, %d", f, e)
			}
		}
		for _, x := range []string{"", "S", "D", "S\x03", "D\x03", "S\x08", "D\xff", "x\x00", "s\x00", "\x00S", "S\x00\x00", "D\x000", "S0", strings.Repeat("S\x00", 1000)} {
			if e := s.Hear(x); e != api.ErrFeedback {
				t.Fatalf("Hear(%.10q) = %d", x, e)
			}
		}
	}
	for keep := 1; keep <= 4; keep++ {
		asked, quiet := begun(t, 3, keep, 7), begun(t, 3, keep, 7)
		for n := range 200 {
			port := n / 3 * 7 % 5
			ask(asked, port, n)
			if n%17 == 0 && n > 0 {
				hear(t, asked, "D\x00")
				hear(t, quiet, "D\x00")
			}
			p := regular(uint16(port), n/5)
			if f, g := send(t, asked, p), send(t, quiet, p); f != g {
				t.Fatalf("Keep %d, packet %d: %x, without the refusals %x", keep, n, f, g)
			}
			if l, m := asked.Flows(), quiet.Flows(); !slices.Equal(l, m) {
				t.Fatalf("Keep %d, packet %d: %+v, without the refusals %+v", keep, n, l, m)
			}
		}
	}
}

func TestTwoSendersInTurn(t *testing.T) {
	alone := func(keep, by int) []string {
		s := begun(t, 2, keep, 5)
		var l []string
		for n := range 60 {
			l = append(l, send(t, s, regular(uint16(n/by%3), n)))
		}
		return l
	}
	first, second := alone(1, 4), alone(3, 7)
	s, r := begun(t, 2, 1, 5), begun(t, 2, 3, 5)
	for n := range 60 {
		f := send(t, s, regular(uint16(n/4%3), n))
		g := send(t, r, regular(uint16(n/7%3), n))
		if f != first[n] || g != second[n] {
			t.Fatalf("packet %d: %x and %x, alone %x and %x", n, f, g, first[n], second[n])
		}
	}
}
