package frame

import (
	"encoding/hex"
	"strings"
	"testing"

	"gist/api"
	"gist/state"
)

// sizes is how long the shortest frame of each kind is.
var sizes = [4]int{2, 5, 13, 23}

func text(t *testing.T, digits string) string {
	t.Helper()
	b, e := hex.DecodeString(digits)
	if e != nil {
		t.Fatal(e)
	}
	return string(b)
}

func TestReadEachByte(t *testing.T) {
	at := Place{Cid: 5, Turn: 2}
	all := state.State{Seq: 0x0b0c, Stride: 0x1415, Offset: 0x0606, Lag: 0x0c303714, Flags: 0x13}
	for digits, want := range map[string]Frame{
		"ea" + "01020304" + "05060708" + "090a" + "0b0c" + "0d0e0f10" + "1112" + "13" + "1415" + "3f" + "6869": {
			Kind: api.Whole, At: at, Route: api.Route{Src: 0x01020304, Dst: 0x05060708, Port: 0x090a}, Told: all, Check: 0x3f, Body: "hi"},
		"aa" + "0b0c" + "0d0e0f10" + "1112" + "13" + "1415" + "3f" + "6869": {Kind: api.Full, At: at, Told: all, Check: 0x3f, Body: "hi"},
		"6a" + "0c" + "06" + "14" + "19" + "6869":                           {Kind: api.Short, At: at, Told: state.State{Seq: 0x0c, Offset: 0x06, Lag: 0x14}, Check: 0x19, Body: "hi"},
		"2a" + "ca" + "6869":             {Kind: api.Tiny, At: at, Told: state.State{Seq: 0x0c}, Check: 5, Body: "hi"},
		"3e" + "fe":                      {Kind: api.Tiny, At: Place{Cid: 7, Turn: 3}, Told: state.State{Seq: 15}, Check: 7},
		"7e" + "ff" + "ff" + "ff" + "7f": {Kind: api.Short, At: Place{Cid: 7, Turn: 3}, Told: state.State{Seq: 255, Offset: 255, Lag: 255}, Check: 127},
	} {
		f, is := Read(text(t, digits))
		if f != want || !is {
			t.Errorf("Read(%s) = %+v, %v, want %+v", digits, f, is, want)
		}
		if p := somePacket("hi"); len(f.Body) > 0 && !f.Right(p) {
			t.Errorf("the check of %s is not right", digits)
		}
	}
}

func TestReadFirstBytes(t *testing.T) {
	for first := range 256 {
		f, is := Read(string([]byte{byte(first)}) + strings.Repeat("\x00", 30))
		if first%2 == 1 {
			if f != (Frame{}) || is {
				t.Errorf("first byte %x: %+v, %v", first, f, is)
			}
			continue
		}
		if !is || int(f.Kind) != first/64 || int(f.At.Turn) != first/16%4 || int(f.At.Cid) != first/2%8 || len(f.Body) != 31-sizes[f.Kind] {
			t.Errorf("first byte %x: %+v, %v", first, f, is)
		}
	}
}

func TestReadLengths(t *testing.T) {
	if f, is := Read(""); f != (Frame{}) || is {
		t.Errorf("an empty text: %+v, %v", f, is)
	}
	for kind, size := range sizes {
		first := string([]byte{byte(kind * 64)})
		for length := range 200 {
			f, is := Read(first + strings.Repeat("\x00", length))
			if want := length+1 >= size && length+1 <= size+100; is != want || (!is && f != Frame{}) || (is && len(f.Body) != length+1-size) {
				t.Errorf("kind %d, %d bytes: %+v, %v", kind, length+1, f, is)
			}
		}
		if f, is := Read(first + strings.Repeat("\x00", 1<<22)); f != (Frame{}) || is {
			t.Errorf("kind %d, very long: %+v, %v", kind, f, is)
		}
	}
}

func TestReadNoughts(t *testing.T) {
	for n := range 256 {
		b := string([]byte{byte(n)})
		for _, body := range []string{"", "\xff"} {
			f, is := Read("\x04" + b + body)
			want := Frame{Kind: api.Tiny, At: Place{Cid: 2}, Told: state.State{Seq: uint16(n / 16)}, Check: uint8(n / 2 % 8), Body: body}
			if n%2 == 1 {
				want = Frame{}
			}
			if f != want || is != (n%2 == 0) {
				t.Errorf("TINY with %x: %+v, %v", n, f, is)
			}
			f, is = Read("\x44\xff\xff\xff" + b + body)
			want = Frame{Kind: api.Short, At: Place{Cid: 2}, Told: state.State{Seq: 255, Offset: 255, Lag: 255}, Check: uint8(n), Body: body}
			if n > 127 {
				want = Frame{}
			}
			if f != want || is != (n < 128) {
				t.Errorf("SHORT with the check %x: %+v, %v", n, f, is)
			}
		}
	}
	// No bit of a FULL or a WHOLE frame but the lowest of the first byte must be 0.
	for kind := api.Full; kind <= api.Whole; kind++ {
		if f, is := Read(string([]byte{byte(kind * 64)}) + strings.Repeat("\xff", sizes[kind]+99)); !is || f.Check != 255 || f.Told.Stride != 65535 || len(f.Body) != 100 {
			t.Errorf("kind %d: %+v, %v", kind, f, is)
		}
	}
}

// What Make makes Read takes apart again, and a check is right of its own
// header alone, or of one with the same check.
func TestReadWhatMakeMakes(t *testing.T) {
	routes := []api.Route{{}, {Src: 1<<32 - 1, Dst: 1, Port: 1 << 15}, {Src: 7, Dst: 1<<32 - 1, Port: 65535}}
	var wrong [4]int
	for n := range 3000 {
		p := api.Packet{Route: routes[n%3], Seq: uint16(n * 2503), Time: uint32(n * 1440865359), Id: uint16(n * 7919), Flags: uint8(n * 37), Body: strings.Repeat("b", n%101)}
		s := state.Of(p, uint16(n*31337))
		at := Place{Cid: uint8(n % 8), Turn: uint8(n / 8 % 4)}
		for kind := range 4 {
			want := Frame{Kind: uint8(kind), At: at, Told: s, Body: p.Body}
			switch kind {
			case api.Whole:
				want.Route = p.Route
			case api.Short:
				want.Told = state.State{Seq: s.Seq % 256, Offset: s.Offset % 256, Lag: s.Lag % 256}
			case api.Tiny:
				want.Told = state.State{Seq: s.Seq % 16}
			}
			f, is := Read(Make(uint8(kind), at, p, s))
			want.Check = f.Check
			if !is || f != want || !f.Right(p) {
				t.Fatalf("kind %d of %+v: %+v, %v", kind, p, f, is)
			}
			q := p
			q.Time ^= 1 << (n % 32)
			if f.Right(q) {
				t.Fatalf("kind %d of %+v: the check is right with one bit turned", kind, p)
			}
			q.Id += 77
			q.Seq ^= 0x5a5a
			if f.Right(q) {
				wrong[kind]++
			}
		}
	}
	for kind, count := range wrong {
		if most := []int{600, 60, 30, 30}[kind]; count > most {
			t.Errorf("kind %d: %d of 3000 checks are right of another header", kind, count)
		}
	}
}
