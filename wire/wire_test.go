package wire

import (
	"strings"
	"testing"

	"gist/api"
)

const headerText = "\x01\x02\x03\x04\x05\x06\x07\x08\x09\x0a\x0b\x0c\x0d\x0e\x0f\x10\x11\x12\x13"

func headerPacket() api.Packet {
	route := api.Route{Src: 0x01020304, Dst: 0x05060708, Port: 0x090a}
	return api.Packet{Route: route, Seq: 0x0b0c, Time: 0x0d0e0f10, Id: 0x1112, Flags: 0x13}
}

func TestTexts(t *testing.T) {
	for _, c := range []struct{ got, want string }{
		{Text8(0), "\x00"}, {Text8(127), "\x7f"}, {Text8(128), "\x80"}, {Text8(255), "\xff"},
		{Text16(0), "\x00\x00"}, {Text16(1), "\x00\x01"}, {Text16(256), "\x01\x00"}, {Text16(0x80fe), "\x80\xfe"}, {Text16(65535), "\xff\xff"},
		{Text32(0), "\x00\x00\x00\x00"}, {Text32(0x01020304), "\x01\x02\x03\x04"}, {Text32(0xfffefdfc), "\xff\xfe\xfd\xfc"},
	} {
		if c.got != c.want {
			t.Errorf("%x, want %x", c.got, c.want)
		}
	}
}

func TestNumber(t *testing.T) {
	for _, c := range []struct {
		text string
		want uint32
	}{
		{"", 0}, {"\x00", 0}, {"\xff", 255}, {"\x01\x00", 256}, {"\x80\xfe", 0x80fe},
		{"\x01\x02\x03", 0x010203}, {"\x01\x02\x03\x04", 0x01020304}, {"\xff\xff\xff\xff", 0xffffffff},
		{"\x01\x02\x03\x04\x05", 0x02030405},
	} {
		if n := Number(c.text); n != c.want {
			t.Errorf("Number(%x) = %x, want %x", c.text, n, c.want)
		}
	}
	for n := range uint32(65536) {
		if Number(Text16(uint16(n))) != n || Number(Text32(n*65537)) != n*65537 {
			t.Fatalf("%d does not come back", n)
		}
	}
}

func TestHeader(t *testing.T) {
	if s := Header(headerPacket()); s != headerText {
		t.Errorf("Header = %x, want %x", s, headerText)
	}
	if s := Fields(headerPacket()); s != headerText[10:] {
		t.Errorf("Fields = %x, want %x", s, headerText[10:])
	}
	if s := Header(api.Packet{Body: "body"}); s != strings.Repeat("\x00", HeaderSize) {
		t.Errorf("Header of noughts = %x", s)
	}
	if s := Fields(api.Packet{Route: api.Route{Src: 1, Dst: 2, Port: 3}, Body: "body"}); s != strings.Repeat("\x00", 9) {
		t.Errorf("Fields of noughts = %x", s)
	}
}

func TestReadHeader(t *testing.T) {
	for _, behind := range []string{"", "\xff", strings.Repeat("x", 1000)} {
		if p := ReadHeader(headerText + behind); p != headerPacket() {
			t.Errorf("ReadHeader = %+v, want %+v", p, headerPacket())
		}
	}
	for length := range HeaderSize {
		if p := ReadHeader(headerText[:length]); p != (api.Packet{}) {
			t.Errorf("ReadHeader of %d bytes = %+v", length, p)
		}
	}
}

func TestReadFields(t *testing.T) {
	want := headerPacket()
	want.Route = api.Route{}
	for _, behind := range []string{"", "\xff", strings.Repeat("x", 1000)} {
		if p := ReadFields(headerText[10:] + behind); p != want {
			t.Errorf("ReadFields = %+v, want %+v", p, want)
		}
	}
	for length := range FieldsSize {
		if p := ReadFields(headerText[10 : 10+length]); p != (api.Packet{}) {
			t.Errorf("ReadFields of %d bytes = %+v", length, p)
		}
	}
}
