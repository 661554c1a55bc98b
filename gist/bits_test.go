package gist

import (
	"math"
	"strings"
	"testing"

	"gist/api"
)

func TestExample1(t *testing.T) {
	for _, c := range []struct {
		width int
		text  string
		want  uint8
	}{
		{3, "", 7}, {7, "", 127}, {8, "", 255}, {3, "\x00", 5},
		{3, "123456789", 6}, {7, "123456789", 83}, {8, "123456789", 208},
	} {
		if n, e := Crc(c.width, c.text); n != c.want || e != api.OK {
			t.Errorf("Crc(%d, %q) = %d, %d, want %d", c.width, c.text, n, e, c.want)
		}
	}
	if n := Sum(""); n != 65535 {
		t.Errorf("Sum of nothing = %d", n)
	}
	if n := Sum("\x00\x01\xf2\x03\xf4\xf5\xf6\xf7"); n != 8717 {
		t.Errorf("Sum = %d, want 8717", n)
	}
}

func TestExample2(t *testing.T) {
	for _, c := range []struct {
		ref     uint16
		k       int
		p, bits uint16
		want    uint16
	}{{10, 4, 1, 9, 9}, {10, 4, 1, 8, 24}, {65535, 4, 1, 2, 2}, {7, 0, 0, 0, 7}, {7, 16, 65535, 9, 9}} {
		if v, e := Low16(c.ref, c.k, c.p, c.bits); v != c.want || e != api.OK {
			t.Errorf("Low16(%d, %d, %d, %d) = %d, %d, want %d", c.ref, c.k, c.p, c.bits, v, e, c.want)
		}
	}
	if v, e := Low32(5, 8, 128, 255); v != 4294967295 || e != api.OK {
		t.Errorf("Low32(5, 8, 128, 255) = %d, %d", v, e)
	}
	for _, c := range []struct {
		v    uint16
		want bool
	}{{9, true}, {24, true}, {8, false}, {25, false}} {
		if is, e := Fits16(c.v, 10, 4, 1); is != c.want || e != api.OK {
			t.Errorf("Fits16(%d, 10, 4, 1) = %v, %d", c.v, is, e)
		}
		if is, e := Fits32(uint32(c.v), 10, 4, 1); is != c.want || e != api.OK {
			t.Errorf("Fits32(%d, 10, 4, 1) = %v, %d", c.v, is, e)
		}
	}
}

// The numbers of 32 bits do not turn where those of 16 do.
func TestP4WidthsApart(t *testing.T) {
	if v, e := Low16(65535, 4, 1, 2); v != 2 || e != api.OK {
		t.Errorf("Low16(65535, 4, 1, 2) = %d, %d", v, e)
	}
	if v, e := Low32(65535, 4, 1, 2); v != 65538 || e != api.OK {
		t.Errorf("Low32(65535, 4, 1, 2) = %d, %d", v, e)
	}
	if is, e := Fits16(2, 65535, 4, 1); !is || e != api.OK {
		t.Errorf("Fits16(2, 65535, 4, 1) = %v, %d", is, e)
	}
	if is, e := Fits32(2, 65535, 4, 1); is || e != api.OK {
		t.Errorf("Fits32(2, 65535, 4, 1) = %v, %d", is, e)
	}
	if is, e := Fits32(2, 4294967295, 4, 1); !is || e != api.OK {
		t.Errorf("Fits32(2, 4294967295, 4, 1) = %v, %d", is, e)
	}
}

func TestP4CountsApart(t *testing.T) {
	for k := 17; k <= 32; k++ {
		if v, e := Low16(5, k, 1, 2); v != 0 || e != api.ErrNumber {
			t.Errorf("Low16(5, %d, 1, 2) = %d, %d", k, v, e)
		}
		if is, e := Fits16(5, 5, k, 1); is || e != api.ErrNumber {
			t.Errorf("Fits16(5, 5, %d, 1) = %v, %d", k, is, e)
		}
		if v, e := Low32(5, k, 1, 6); v != 6 || e != api.OK {
			t.Errorf("Low32(5, %d, 1, 6) = %d, %d", k, v, e)
		}
		if is, e := Fits32(5, 5, k, 1); !is || e != api.OK {
			t.Errorf("Fits32(5, 5, %d, 1) = %v, %d", k, is, e)
		}
	}
}

// Beside an error stands nothing, at whatever numbers; and no call panics.
func TestP1NothingBesideAnError(t *testing.T) {
	for _, k := range []int{math.MinInt, -64, -1, 0, 1, 15, 16, 17, 31, 32, 33, 64, math.MaxInt} {
		for _, n := range []uint32{0, 1, 2, 32767, 32768, 65535, 65536, 1<<31 - 1, 1 << 31, 4294967295} {
			if v, e := Low16(77, k, uint16(n), 0); e != api.OK && (v != 0 || e != api.ErrNumber) {
				t.Errorf("Low16(77, %d, %d, 0) = %d, %d", k, uint16(n), v, e)
			}
			if v, e := Low16(77, k, 0, uint16(n)); e != api.OK && (v != 0 || e != api.ErrNumber) {
				t.Errorf("Low16(77, %d, 0, %d) = %d, %d", k, uint16(n), v, e)
			}
			if v, e := Low32(77, k, n, 0); e != api.OK && (v != 0 || e != api.ErrNumber) {
				t.Errorf("Low32(77, %d, %d, 0) = %d, %d", k, n, v, e)
			}
			if v, e := Low32(77, k, 0, n); e != api.OK && (v != 0 || e != api.ErrNumber) {
				t.Errorf("Low32(77, %d, 0, %d) = %d, %d", k, n, v, e)
			}
			if is, e := Fits16(77, 77, k, uint16(n)); e != api.OK && (is || e != api.ErrNumber) {
				t.Errorf("Fits16(77, 77, %d, %d) = %v, %d", k, uint16(n), is, e)
			}
			if is, e := Fits32(77, 77, k, n); e != api.OK && (is || e != api.ErrNumber) {
				t.Errorf("Fits32(77, 77, %d, %d) = %v, %d", k, n, is, e)
			}
		}
		if n, e := Crc(k, "abc"); n != 0 || e != api.ErrNumber {
			t.Errorf("Crc(%d, abc) = %d, %d", k, n, e)
		}
	}
}

type answers struct {
	crc3, crc7, crc8, crcNone uint8
	sum                       uint16
	low16, low16None          uint16
	low32, low32None          uint32
	fits16, fits32            bool
}

func ask() answers {
	var a answers
	a.crc3, _ = Crc(3, "gist")
	a.crc7, _ = Crc(7, "gist")
	a.crc8, _ = Crc(8, "gist")
	a.crcNone, _ = Crc(9, "gist")
	a.sum = Sum("gist!")
	a.low16, _ = Low16(1000, 8, 128, 77)
	a.low16None, _ = Low16(1000, 8, 256, 77)
	a.low32, _ = Low32(100000, 8, 128, 77)
	a.low32None, _ = Low32(100000, 8, 256, 77)
	a.fits16, _ = Fits16(1000, 1000, 8, 128)
	a.fits32, _ = Fits32(100000, 100000, 8, 128)
	return a
}

func TestP2NothingIsKeptBetweenCalls(t *testing.T) {
	first := ask()
	Crc(8, strings.Repeat("\xff", 1001))
	Sum(strings.Repeat("\xff\xfe", 1001))
	Low16(65535, 16, 65535, 65535)
	Low32(4294967295, 32, 4294967295, 4294967295)
	Fits16(1, 2, -1, 3)
	Fits32(1, 2, 33, 3)
	if again := ask(); again != first {
		t.Errorf("first %v, then %v", first, again)
	}
}
