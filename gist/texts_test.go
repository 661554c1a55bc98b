package gist

import (
	"slices"
	"strings"
	"testing"

	"gist/api"
)

func somePacket(body string) api.Packet {
	route := api.Route{Src: 0x01020304, Dst: 0x05060708, Port: 0x090a}
	return api.Packet{Route: route, Seq: 0x0b0c, Time: 0x0d0e0f10, Id: 0x1112, Flags: 0x13, Body: body}
}

func TestExample3(t *testing.T) {
	if s, e := Join([]string{"a", ""}); s != "\x01\x61\x00" || e != api.OK {
		t.Errorf("Join = %x, %d", s, e)
	}
	if l, e := Split("\x01\x61\x00"); !slices.Equal(l, []string{"a", ""}) || e != api.OK {
		t.Errorf("Split = %q, %d", l, e)
	}
	for _, text := range []string{"\x80\x05", "\x02\x61"} {
		if l, e := Split(text); l != nil || e != api.ErrFrame {
			t.Errorf("Split(%x) = %q, %d", text, l, e)
		}
	}
}

func TestP5WriteAndRead(t *testing.T) {
	want := "\x01\x02\x03\x04\x05\x06\x07\x08\x09\x0a\x0b\x0c\x0d\x0e\x0f\x10\x11\x12\x13\x02hi"
	sum := Sum(want)
	want += string([]byte{byte(sum >> 8), byte(sum)})
	if s, e := Write(somePacket("hi")); s != want || e != api.OK {
		t.Errorf("Write = %x, %d, want %x", s, e, want)
	}
	for _, length := range []int{0, 1, 99, 100} {
		p := somePacket(strings.Repeat("b", length))
		s, e := Write(p)
		if q, f := Read(s); q != p || e != api.OK || f != api.OK || len(s) != 22+length {
			t.Errorf("a body of %d: %d bytes, %d, read as %+v, %d", length, len(s), e, q, f)
		}
	}
}

func TestP5Refusals(t *testing.T) {
	if s, e := Write(somePacket(strings.Repeat("b", 101))); s != "" || e != api.ErrLong {
		t.Errorf("Write of a body of 101 = %x, %d", s, e)
	}
	s, _ := Write(somePacket("hi"))
	noughts := strings.Repeat("\x00", 19)
	for _, c := range []struct {
		text string
		want api.Errno
	}{
		{"", api.ErrFrame}, {s[:21], api.ErrFrame}, {s[:23], api.ErrFrame}, {s + "\x00", api.ErrFrame},
		{noughts + "\x65" + strings.Repeat("b", 101) + "??", api.ErrLong},
		{noughts + "\x65" + strings.Repeat("b", 102) + "??", api.ErrFrame},
		{s[:22] + "??", api.ErrSum}, {"?" + s[1:], api.ErrSum},
	} {
		if p, e := Read(c.text); p != (api.Packet{}) || e != c.want {
			t.Errorf("Read(%x) = %+v, %d, want %d", c.text, p, e, c.want)
		}
	}
}

func TestP6Refusals(t *testing.T) {
	long := strings.Repeat("x", 301)
	if s, e := Join([]string{"a", long}); s != "" || e != api.ErrLong {
		t.Errorf("Join of 301 bytes = %.40q, %d", s, e)
	}
	if s, e := Join([]string{long, "", "", "", "", "", "", "", ""}); s != "" || e != api.ErrMany {
		t.Errorf("Join of nine = %.40q, %d", s, e)
	}
	for _, text := range []string{"\x81\x2d" + long, strings.Repeat("\x00", 9), "\x80\x7f" + long[:127], "\x80\x80" + long[:127]} {
		if l, e := Split(text); l != nil || e != api.ErrFrame {
			t.Errorf("Split(%.40q) = %.40q, %d", text, l, e)
		}
	}
}

// Frames go through the texts whole: a list of packets comes back as it was.
func TestP5AndP6Together(t *testing.T) {
	packets := []api.Packet{somePacket(""), somePacket("one"), somePacket(strings.Repeat("b", 100))}
	var frames []string
	for _, p := range packets {
		s, _ := Write(p)
		frames = append(frames, s)
	}
	text, e := Join(frames)
	l, f := Split(text)
	if e != api.OK || f != api.OK || len(l) != len(packets) {
		t.Fatalf("%d frames, %d, %d", len(l), e, f)
	}
	for i, p := range packets {
		if q, e := Read(l[i]); q != p || e != api.OK {
			t.Errorf("packet %d came back as %+v, %d", i, q, e)
		}
	}
}

func TestP2ListsAreTheCallers(t *testing.T) {
	given := []string{"a", "b", "spare", "spare"}
	Join(given[:2])
	if !slices.Equal(given, []string{"a", "b", "spare", "spare"}) {
		t.Errorf("Join changed its list to %q", given)
	}
	want := []string{"a", "b", "c"}
	first, _ := Split("\x01a\x01b\x01c")
	second, _ := Split("\x01a\x01b\x01c")
	second = second[:cap(second)]
	for i := range second {
		second[i] = "overwritten"
	}
	if !slices.Equal(first, want) {
		t.Errorf("Split's earlier list is %q now", first)
	}
	if third, e := Split("\x01a\x01b\x01c"); !slices.Equal(third, want) || e != api.OK {
		t.Errorf("Split's later list is %q, %d", third, e)
	}
}

func TestP2TextsHangOnTheirArgumentsAlone(t *testing.T) {
	written, _ := Write(somePacket("body"))
	joined, _ := Join([]string{"a", "bc"})
	Write(somePacket(strings.Repeat("b", 101)))
	Read(strings.Repeat("\xff", 300))
	Join(make([]string, 9))
	Split("\xff\xff")
	if s, e := Write(somePacket("body")); s != written || e != api.OK {
		t.Errorf("Write = %x, %d, want %x", s, e, written)
	}
	if p, e := Read(written); p != somePacket("body") || e != api.OK {
		t.Errorf("Read = %+v, %d", p, e)
	}
	if s, e := Join([]string{"a", "bc"}); s != joined || e != api.OK {
		t.Errorf("Join = %x, %d, want %x", s, e, joined)
	}
	if l, e := Split(joined); !slices.Equal(l, []string{"a", "bc"}) || e != api.OK {
		t.Errorf("Split = %q, %d", l, e)
	}
}
