package frame

import (
	"encoding/hex"
	"strings"
	"testing"

	"gist/api"
	"gist/state"
)

func somePacket(body string) api.Packet {
	route := api.Route{Src: 0x01020304, Dst: 0x05060708, Port: 0x090a}
	return api.Packet{Route: route, Seq: 0x0b0c, Time: 0x0d0e0f10, Id: 0x1112, Flags: 0x13, Body: body}
}

// Of this packet the checks are 5, 19 and 3f, OFFSET is 0606 and LAG 0c303714.
func TestEachByte(t *testing.T) {
	for _, c := range []struct {
		kind uint8
		want string
	}{
		{api.Whole, "ea" + "01020304" + "05060708" + "090a" + "0b0c" + "0d0e0f10" + "1112" + "13" + "1415" + "3f" + "6869"},
		{api.Full, "aa" + "0b0c" + "0d0e0f10" + "1112" + "13" + "1415" + "3f" + "6869"},
		{api.Short, "6a" + "0c" + "06" + "14" + "19" + "6869"},
		{api.Tiny, "2a" + "ca" + "6869"},
	} {
		p := somePacket("hi")
		f := Make(c.kind, Place{Cid: 5, Turn: 2}, p, state.Of(p, 0x1415))
		if hex.EncodeToString([]byte(f)) != c.want {
			t.Errorf("kind %d: %x, want %s", c.kind, f, c.want)
		}
	}
}

func TestGreatestNumbers(t *testing.T) {
	route := api.Route{Src: 0xffffffff, Dst: 0xffffffff, Port: 0xffff}
	p := api.Packet{Route: route, Seq: 0xffff, Time: 1, Flags: 0xff, Body: "hi"}
	for kind, want := range []string{
		"3efc6869",
		"7eff0100726869",
		"beffff000000010000ffffff3e6869",
		"feffffffffffffffffffffffff000000010000ffffff3e6869",
	} {
		f := Make(uint8(kind), Place{Cid: 7, Turn: 3}, p, state.Of(p, 0xffff))
		if hex.EncodeToString([]byte(f)) != want {
			t.Errorf("kind %d: %x, want %s", kind, f, want)
		}
	}
}

func TestFirstByte(t *testing.T) {
	for kind := range 4 {
		for turn := range 4 {
			for cid := range 8 {
				p := somePacket("")
				f := Make(uint8(kind), Place{Cid: uint8(cid), Turn: uint8(turn)}, p, state.Of(p, 9))
				if len(f) == 0 || int(f[0]) != kind*64+turn*16+cid*2 {
					t.Errorf("kind %d, turn %d, context %d: %x", kind, turn, cid, f)
				}
			}
		}
	}
}

func TestBodies(t *testing.T) {
	for kind, size := range []int{2, 5, 13, 23} {
		for _, length := range []int{0, 1, 99, 100} {
			p := somePacket(strings.Repeat("\x00b\xff.", 25)[:length])
			f := Make(uint8(kind), Place{}, p, state.Of(p, 9))
			if len(f) != size+length || f[size:] != p.Body {
				t.Errorf("kind %d, a body of %d: %x", kind, length, f)
			}
			bare := Make(uint8(kind), Place{}, somePacket(""), state.Of(p, 9))
			if !strings.HasPrefix(f, bare) {
				t.Errorf("kind %d: the body changes what is ahead of it: %x, %x", kind, f, bare)
			}
		}
	}
}

// Of a SHORT and a TINY frame the bits that must be 0 are 0, whatever the check.
func TestNoughts(t *testing.T) {
	p := somePacket("")
	var seen [128]bool
	for n := range 65536 {
		p.Seq, p.Id = uint16(n), uint16(n*7)
		s := Make(api.Short, Place{}, p, state.Of(p, 3))
		if s[1] != byte(n) || s[2] != byte(p.Id-p.Seq) || s[4] > 127 {
			t.Fatalf("Seq %d: %x", n, s)
		}
		seen[s[4]] = true
		y := Make(api.Tiny, Place{}, p, state.Of(p, 3))
		if y[1]>>4 != byte(n%16) || y[1]%2 != 0 {
			t.Fatalf("Seq %d: %x", n, y)
		}
	}
	for n, is := range seen {
		if !is {
			t.Errorf("no check of width 7 is %d", n)
		}
	}
}
