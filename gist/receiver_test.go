package gist

import (
	"encoding/hex"
	"slices"
	"strings"
	"testing"

	"gist/api"
)

func receiving(t *testing.T, cids, keep, refresh int) *Receiver {
	t.Helper()
	r, e := NewReceiver(api.Config{Cids: cids, Keep: keep, Refresh: refresh})
	if r == nil || e != api.OK {
		t.Fatalf("NewReceiver(%d, %d, %d) = %v, %d", cids, keep, refresh, r, e)
	}
	return r
}

func unhex(t *testing.T, digits string) string {
	t.Helper()
	b, e := hex.DecodeString(digits)
	if e != nil {
		t.Fatal(e)
	}
	return string(b)
}

func takes(t *testing.T, r *Receiver, f string, want api.Packet) {
	t.Helper()
	if p, back, e := r.Take(f); p != want || back != "" || e != api.OK {
		t.Fatalf("Take(%x) = %+v, %q, %d, want %+v", f, p, back, e, want)
	}
}

func misses(t *testing.T, r *Receiver, f string, back string, want api.Errno) {
	t.Helper()
	if p, b, e := r.Take(f); p != (api.Packet{}) || b != back || e != want {
		t.Fatalf("Take(%.30x) = %+v, %q, %d, want %q, %d", f, p, b, e, back, want)
	}
}

func flowsAre(t *testing.T, r *Receiver, want ...api.Flow) {
	t.Helper()
	if l := r.Flows(); !slices.Equal(l, want) {
		t.Fatalf("Flows() = %+v, want %+v", l, want)
	}
}

func TestExamples4And5Taken(t *testing.T) {
	for keep := 1; keep <= 4; keep++ {
		s, r := begun(t, 1, keep, 9), receiving(t, 1, keep, 9)
		for n := 1; n <= 100; n++ {
			f, _ := s.Send(ofExample(n))
			takes(t, r, f, ofExample(n))
			flowsAre(t, r, api.Flow{Seq: uint16(n)})
		}
	}
}

func TestP10Configurations(t *testing.T) {
	for _, c := range []api.Config{{Cids: 1, Keep: 1, Refresh: 2}, {Cids: 8, Keep: 4, Refresh: 100}} {
		flowsAre(t, receiving(t, c.Cids, c.Keep, c.Refresh))
	}
	for _, c := range triedConfigs() {
		r, e := NewReceiver(c.config)
		if (e == api.OK) != c.is || (r != nil) != c.is || (!c.is && e != api.ErrConfig) {
			t.Errorf("NewReceiver(%+v) = %v, %d", c.config, r, e)
		}
	}
}

// Frames of each kind, written out byte by byte.
func TestP11Bytes(t *testing.T) {
	r := receiving(t, 6, 1, 100)
	p := api.Packet{Route: api.Route{Src: 0xc0a80001, Dst: 0x0a000002, Port: 0x1f90}, Flags: 0x81}
	for _, c := range []struct {
		frame   string
		seq, id uint16
		time    uint32
		body    string
	}{
		{"ea" + "c0a80001" + "0a000002" + "1f90" + "01fe" + "00010000" + "0300" + "81" + "0000" + "e3" + "61", 0x01fe, 0x0300, 0x00010000, "a"},
		{"aa" + "01ff" + "000100a0" + "0301" + "81" + "00a0" + "01", 0x01ff, 0x0301, 0x000100a0, ""},
		{"2a" + "0e" + "636363", 0x0200, 0x0302, 0x00010140, "ccc"},
		{"6a" + "03" + "04" + "45" + "4a" + "64", 0x0203, 0x0307, 0x00010325, "d"},
	} {
		p.Seq, p.Id, p.Time, p.Body = c.seq, c.id, c.time, c.body
		takes(t, r, unhex(t, c.frame), p)
		flowsAre(t, r, api.Flow{Cid: 5, Turn: 2, Route: p.Route, Seq: c.seq})
	}
}

// ofKinds are frames of a context, one of each kind, that follow its packet 9:
// TINY, SHORT, FULL, WHOLE; and the packets of which they were made.
func ofKinds(t *testing.T) (ahead string, frames [4]string, packets [4]api.Packet) {
	t.Helper()
	for kind := range 4 {
		s := begun(t, 1, 1, 50)
		for n := 1; n <= 8; n++ {
			s.Send(ofExample(n))
		}
		s.Hear("S\x00")
		ahead, _ = s.Send(ofExample(9))
		p := ofExample(10)
		switch kind {
		case api.Short:
			p.Id += 127
		case api.Full:
			p.Flags = 1
		case api.Whole:
			s.Hear("S\x00")
		}
		f, _ := s.Send(p)
		if int(f[0]) != 64*kind || len(f) != []int{2, 5, 13, 23}[kind] {
			t.Fatalf("a frame of kind %d: %x", kind, f)
		}
		frames[kind], packets[kind] = f, p
	}
	return ahead, frames, packets
}

func TestP11Forms(t *testing.T) {
	ahead, frames, packets := ofKinds(t)
	x := strings.Repeat("x", 100)
	for kind, f := range frames {
		r := receiving(t, 3, 1, 50)
		takes(t, r, ahead, ofExample(9))
		bad := []string{"", f[:1], f[:len(f)-1], f + x + "x", f + strings.Repeat(x, 100000)}
		for _, first := range []byte{1, 6, 8, 10, 12, 14} {
			bad = append(bad, string([]byte{f[0] | first})+f[1:])
		}
		switch kind {
		case api.Tiny:
			bad = append(bad, f[:1]+string([]byte{f[1] | 1}))
		case api.Short:
			bad = append(bad, f[:4]+string([]byte{f[4] | 128}))
		}
		for _, g := range bad {
			misses(t, r, g, "", api.ErrFrame)
			flowsAre(t, r, api.Flow{Seq: 9})
		}
		if kind != api.Whole {
			misses(t, r, string([]byte{f[0] | 4})+f[1:], "S\x02", api.ErrContext)
		}
		p := packets[kind]
		p.Body = x
		takes(t, r, f+x, p)
		flowsAre(t, r, api.Flow{Seq: 10})
		if kind != api.Tiny && kind != api.Short {
			takes(t, r, f, packets[kind])
		}
	}
}

func TestP11Missed(t *testing.T) {
	ahead, frames, packets := ofKinds(t)
	for kind := api.Tiny; kind <= api.Full; kind++ {
		f := frames[kind]
		turned := string([]byte{f[0] | 32}) + f[1:]
		at := []int{1, 4, 12}[kind]
		spoilt := f[:at] + string([]byte{f[at] ^ 4}) + f[at+1:]
		for _, c := range []struct {
			frame string
			e     api.Errno
		}{{turned, api.ErrTurn}, {spoilt, api.ErrCheck}} {
			r := receiving(t, 1, 1, 50)
			for n := 1; n <= 300; n++ {
				misses(t, r, []string{f, turned, spoilt}[n%3], []string{"", "S\x00", "", ""}[n%256%4], api.ErrContext)
				flowsAre(t, r)
			}
			takes(t, r, ahead, ofExample(9))
			for n := 1; n <= 300; n++ {
				misses(t, r, c.frame, []string{"S\x00", "", "D\x00", ""}[n%256%4], c.e)
				flowsAre(t, r, api.Flow{Seq: 9, Count: n % 256})
			}
			takes(t, r, f, packets[kind])
			flowsAre(t, r, api.Flow{Seq: 10})
		}
	}
	// A spoilt whole frame is not missed, and none brings feedback.
	r := receiving(t, 1, 1, 50)
	whole := frames[api.Whole]
	for n := range 20 {
		misses(t, r, whole[:22]+string([]byte{whole[22] ^ byte(1+n)}), "", api.ErrCheck)
		flowsAre(t, r)
	}
	misses(t, r, frames[api.Tiny], "S\x00", api.ErrContext)
	takes(t, r, whole, packets[api.Whole])
	for n := range 20 {
		misses(t, r, whole[:19]+string([]byte{whole[19] ^ byte(1+n)})+whole[20:], "", api.ErrCheck)
		flowsAre(t, r, api.Flow{Seq: 10})
	}
}

// A receiver that refused many things goes on as one that was not asked, but
// for MISSED.
func TestP1RefusalsLeaveTheReceiverAsItWas(t *testing.T) {
	s := begun(t, 2, 2, 6)
	asked, quiet := receiving(t, 2, 2, 6), receiving(t, 2, 2, 6)
	for n := range 80 {
		p := ofExample(n * n / 5)
		p.Port = uint16(n / 8 % 3)
		f, _ := s.Send(p)
		none := []string{"", f[:1], "\x01" + f[1:], string([]byte{f[0] | 4}) + f[1:], f + strings.Repeat("x", 101), f[:len(f)-1]}
		if f[0]>>6 == api.Whole {
			none = append(none, f[:19]+string([]byte{^f[19]})+f[20:])
		}
		for _, g := range none {
			if q, back, e := asked.Take(g); q != (api.Packet{}) || back != "" || (e != api.ErrFrame && e != api.ErrCheck) {
				t.Fatalf("Take(%x) = %+v, %q, %d", g, q, back, e)
			}
		}
		if !slices.Equal(asked.Flows(), quiet.Flows()) {
			t.Fatalf("packet %d: %+v, without the refusals %+v", n, asked.Flows(), quiet.Flows())
		}
		turned := f[0] & 14
		for _, l := range asked.Flows() {
			if l.Cid == turned/2 {
				turned |= (l.Turn + 1 + uint8(n%3)) % 4 << 4
			}
		}
		for range n % 7 {
			if q, _, e := asked.Take(string([]byte{turned, 0})); q != (api.Packet{}) || (e != api.ErrTurn && e != api.ErrContext) {
				t.Fatalf("Take(%x00) = %+v, %d", turned, q, e)
			}
		}
		takes(t, asked, f, p)
		takes(t, quiet, f, p)
		if !slices.Equal(asked.Flows(), quiet.Flows()) {
			t.Fatalf("packet %d: %+v, without the refusals %+v", n, asked.Flows(), quiet.Flows())
		}
	}
}

func TestP1AnyText(t *testing.T) {
	ahead, _, _ := ofKinds(t)
	for _, fresh := range []bool{true, false} {
		for first := range 256 {
			for second := 0; second < 256; second += 3 {
				for _, length := range []int{0, 1, 2, 3, 4, 10, 11, 20, 21, 22, 98, 99, 100, 120, 122, 123} {
					r := receiving(t, 1, 1, 2)
					if !fresh {
						takes(t, r, ahead, ofExample(9))
					}
					text := string([]byte{byte(first), byte(second)}) + strings.Repeat("\xa7", length)
					p, back, e := r.Take(text)
					if e != api.OK && p != (api.Packet{}) || e == api.OK && back != "" || back != "" && back != "S\x00" && back != "D\x00" {
						t.Fatalf("Take(%x) = %+v, %q, %d", text, p, back, e)
					}
				}
			}
		}
	}
}

func TestP2ReceiversAreApart(t *testing.T) {
	s := begun(t, 2, 1, 6)
	r, other := receiving(t, 2, 1, 6), receiving(t, 2, 1, 6)
	for n := range 60 {
		p := ofExample(n)
		p.Port = uint16(n / 3 % 2)
		f, _ := s.Send(p)
		g := f
		if n%4 == 3 {
			g = string([]byte{f[0] ^ 16}) + f[1:]
		}
		other.Take(g)
		takes(t, r, f, p)
		other.Take("\x00\x00")
		for _, l := range r.Flows() {
			if l.Count != 0 || l.Turn != 0 {
				t.Fatalf("packet %d: %+v", n, l)
			}
		}
	}
	// The other one is as if it had been alone.
	s, alone := begun(t, 2, 1, 6), receiving(t, 2, 1, 6)
	for n := range 60 {
		p := ofExample(n)
		p.Port = uint16(n / 3 % 2)
		f, _ := s.Send(p)
		if n%4 == 3 {
			f = string([]byte{f[0] ^ 16}) + f[1:]
		}
		alone.Take(f)
		alone.Take("\x00\x00")
	}
	flowsAre(t, other, alone.Flows()...)
}

func TestP2FlowsOfAReceiverAreTheCallers(t *testing.T) {
	s, r := begun(t, 8, 1, 6), receiving(t, 8, 1, 6)
	for port := range 3 {
		p := ofExample(1)
		p.Port = uint16(port)
		f, _ := s.Send(p)
		takes(t, r, f, p)
	}
	earlier := r.Flows()
	want := slices.Clone(earlier)
	l := r.Flows()
	l = l[:cap(l)]
	for i := range l {
		l[i] = api.Flow{Cid: 77, Count: 77}
	}
	if len(want) != 3 || !slices.Equal(earlier, want) || !slices.Equal(r.Flows(), want) {
		t.Errorf("earlier %+v, later %+v, want %+v", earlier, r.Flows(), want)
	}
}
