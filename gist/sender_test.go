package gist

import (
	"encoding/hex"
	"math"
	"slices"
	"strings"
	"testing"

	"gist/api"
)

func begun(t *testing.T, cids, keep, refresh int) *Sender {
	t.Helper()
	s, e := NewSender(api.Config{Cids: cids, Keep: keep, Refresh: refresh})
	if s == nil || e != api.OK {
		t.Fatalf("NewSender(%d, %d, %d) = %v, %d", cids, keep, refresh, s, e)
	}
	return s
}

// ofExample is packet n of the flow of examples 4 and 5, from 1 on.
func ofExample(n int) api.Packet {
	return api.Packet{Seq: uint16(n), Id: uint16(10 + n), Time: uint32(90 + 10*n)}
}

func kindsOfExample(t *testing.T, s *Sender, from, to int) []byte {
	t.Helper()
	var l []byte
	for n := from; n <= to; n++ {
		f, e := s.Send(ofExample(n))
		if e != api.OK || len(f) == 0 {
			t.Fatalf("packet %d: %x, %d", n, f, e)
		}
		l = append(l, f[0]>>6)
	}
	return l
}

func TestExample4(t *testing.T) {
	s := begun(t, 1, 1, 9)
	whole, _ := s.Send(ofExample(1))
	full, _ := s.Send(ofExample(2))
	if len(whole) != 23 || whole[0] != 0xc0 || whole[20:22] != "\x00\x00" {
		t.Errorf("the first: %x", whole)
	}
	if len(full) != 13 || full[0] != 0x80 || full[10:12] != "\x00\x0a" {
		t.Errorf("the second: %x", full)
	}
	for n := 3; n <= 9; n++ {
		if f, e := s.Send(ofExample(n)); e != api.OK || len(f) != 2 || f[0] != 0 || f[1]>>4 != byte(n) {
			t.Errorf("packet %d: %x, %d", n, f, e)
		}
	}
}

func TestExample5(t *testing.T) {
	want := []byte{api.Whole, api.Whole, api.Full, api.Tiny}
	if l := kindsOfExample(t, begun(t, 1, 2, 9), 1, 4); !slices.Equal(l, want) {
		t.Errorf("%d, want %d", l, want)
	}
}

type triedConfig struct {
	config api.Config
	is     bool
}

// triedConfigs has each bound of a configuration and the numbers beyond.
func triedConfigs() []triedConfig {
	var l []triedConfig
	for _, n := range []int{math.MinInt, -1, 0, 1, 2, 4, 5, 8, 9, 100, 101, math.MaxInt} {
		l = append(l,
			triedConfig{api.Config{Cids: n, Keep: 4, Refresh: 100}, n >= 1 && n <= 8},
			triedConfig{api.Config{Cids: 8, Keep: n, Refresh: 2}, n >= 1 && n <= 4},
			triedConfig{api.Config{Cids: 1, Keep: 1, Refresh: n}, n >= 2 && n <= 100})
	}
	return l
}

func TestP7Configurations(t *testing.T) {
	for _, c := range []api.Config{{Cids: 1, Keep: 1, Refresh: 2}, {Cids: 8, Keep: 4, Refresh: 100}} {
		if s := begun(t, c.Cids, c.Keep, c.Refresh); len(s.Flows()) != 0 {
			t.Errorf("%+v: a new sender has %+v", c, s.Flows())
		}
	}
	for _, c := range triedConfigs() {
		s, e := NewSender(c.config)
		if (e == api.OK) != c.is || (s != nil) != c.is || (!c.is && e != api.ErrConfig) {
			t.Errorf("NewSender(%+v) = %v, %d", c.config, s, e)
		}
	}
}

// Every byte of a frame of each kind, written out.
func TestP8Bytes(t *testing.T) {
	s := begun(t, 1, 1, 100)
	p := api.Packet{Route: api.Route{Src: 0xc0a80001, Dst: 0x0a000002, Port: 0x1f90}, Flags: 0x81}
	for _, c := range []struct {
		seq, id uint16
		time    uint32
		body    string
		want    string
	}{
		{0x01fe, 0x0300, 0x00010000, "a", "c0" + "c0a80001" + "0a000002" + "1f90" + "01fe" + "00010000" + "0300" + "81" + "0000" + "e3" + "61"},
		{0x01ff, 0x0301, 0x000100a0, "", "80" + "01ff" + "000100a0" + "0301" + "81" + "00a0" + "01"},
		{0x0200, 0x0302, 0x00010140, "ccc", "00" + "0e" + "636363"},
		{0x0203, 0x0307, 0x00010325, "d", "40" + "03" + "04" + "45" + "4a" + "64"},
	} {
		p.Seq, p.Id, p.Time, p.Body = c.seq, c.id, c.time, c.body
		if f, e := s.Send(p); hex.EncodeToString([]byte(f)) != c.want || e != api.OK {
			t.Errorf("Send(%+v) = %x, %d, want %s", p, f, e, c.want)
		}
	}
	want := []api.Flow{{Route: p.Route, Seq: 0x0203, Count: 4}}
	if l := s.Flows(); !slices.Equal(l, want) {
		t.Errorf("Flows() = %+v, want %+v", l, want)
	}
}

func TestP8Bodies(t *testing.T) {
	for _, length := range []int{0, 100} {
		p := somePacket(strings.Repeat("b", length))
		if f, e := begun(t, 1, 1, 2).Send(p); len(f) != 23+length || !strings.HasSuffix(f, p.Body) || e != api.OK {
			t.Errorf("a body of %d: %x, %d", length, f, e)
		}
	}
	s := begun(t, 1, 1, 2)
	for _, length := range []int{101, 1 << 20} {
		if f, e := s.Send(somePacket(strings.Repeat("b", length))); f != "" || e != api.ErrLong || len(s.Flows()) != 0 {
			t.Errorf("a body of %d: %d bytes, %d, %+v", length, len(f), e, s.Flows())
		}
	}
}

func TestP9Counts(t *testing.T) {
	s := begun(t, 2, 2, 100)
	l := kindsOfExample(t, s, 1, 4)
	hears := func(x string, want api.Errno) {
		t.Helper()
		if e := s.Hear(x); e != want {
			t.Errorf("Hear(%q) = %d, want %d", x, e, want)
		}
	}
	for _, x := range []string{"", "S", "S\x01", "D\x02", "s\x00", "\x00S", "D\x00\x00"} {
		hears(x, api.ErrFeedback)
	}
	l = append(l, kindsOfExample(t, s, 5, 5)...)
	hears("D\x00", api.OK)
	l = append(l, kindsOfExample(t, s, 6, 6)...)
	hears("S\x00", api.OK)
	l = append(l, kindsOfExample(t, s, 7, 10)...)
	if want := []byte{3, 3, 2, 0, 0, 2, 3, 3, 2, 0}; !slices.Equal(l, want) {
		t.Errorf("%d, want %d", l, want)
	}
}

func TestP1RefusalsLeaveTheSenderAsItWas(t *testing.T) {
	asked, quiet := begun(t, 2, 2, 6), begun(t, 2, 2, 6)
	for n := range 60 {
		p := ofExample(n)
		p.Port = uint16(n / 4 % 3)
		long := p
		long.Body = strings.Repeat("b", 101)
		long.Port++
		if f, e := asked.Send(long); f != "" || e != api.ErrLong {
			t.Fatalf("a body of 101: %x, %d", f, e)
		}
		for _, x := range []string{"", "S", "S\x02", "D\xff", "x\x00", "S\x00\x00"} {
			if e := asked.Hear(x); e != api.ErrFeedback {
				t.Fatalf("Hear(%q) = %d", x, e)
			}
		}
		f, _ := asked.Send(p)
		g, _ := quiet.Send(p)
		if f != g || !slices.Equal(asked.Flows(), quiet.Flows()) {
			t.Fatalf("packet %d: %x, %+v; without the refusals %x, %+v", n, f, asked.Flows(), g, quiet.Flows())
		}
	}
}

func TestP2SendersAreApart(t *testing.T) {
	alone := begun(t, 2, 1, 6)
	var want []string
	for n := range 40 {
		f, _ := alone.Send(ofExample(n))
		want = append(want, f)
	}
	s, other := begun(t, 2, 1, 6), begun(t, 2, 1, 6)
	for n := range 40 {
		p := ofExample(3 * n)
		p.Port = uint16(n % 3)
		other.Send(p)
		f, _ := s.Send(ofExample(n))
		other.Hear("S\x00")
		other.Hear("D\x00")
		if f != want[n] {
			t.Fatalf("packet %d: %x, alone %x", n, f, want[n])
		}
	}
	if !slices.Equal(s.Flows(), alone.Flows()) {
		t.Errorf("%+v, alone %+v", s.Flows(), alone.Flows())
	}
}

func TestP2FlowsAreTheCallers(t *testing.T) {
	s := begun(t, 8, 1, 6)
	for port := range 3 {
		p := ofExample(1)
		p.Port = uint16(port)
		s.Send(p)
	}
	earlier := s.Flows()
	want := slices.Clone(earlier)
	l := s.Flows()
	l = l[:cap(l)]
	for i := range l {
		l[i] = api.Flow{Cid: 77, Count: 77}
	}
	if !slices.Equal(earlier, want) || !slices.Equal(s.Flows(), want) {
		t.Errorf("earlier %+v, later %+v, want %+v", earlier, s.Flows(), want)
	}
}
