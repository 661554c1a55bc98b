package check

import (
	"math"
	"math/rand"
	"strings"
	"testing"

	"gist/api"
)

var mixes = []struct{ width, mix int }{{3, 6}, {7, 121}, {8, 224}}

// slowCrc follows the document's words on a list of single bits.
func slowCrc(width, mix int, text string) uint8 {
	check := make([]int, width) // lowest bit first
	for i := range check {
		check[i] = 1
	}
	for _, b := range []byte(text) {
		for i := range 8 {
			low := check[0] ^ int(b)>>i&1
			check = append(check[1:], 0)
			for j := range check {
				check[j] ^= low & (mix >> j)
			}
		}
	}
	n := 0
	for i, bit := range check {
		n += bit << i
	}
	return uint8(n)
}

// slowSum adds up whole words first and casts out 65535s in the end.
func slowSum(text string) uint16 {
	if len(text)%2 == 1 {
		text += "\x00"
	}
	total := uint64(0)
	for i := 0; i < len(text); i += 2 {
		total += uint64(text[i])*256 + uint64(text[i+1])
	}
	if total > 0 {
		total = (total-1)%65535 + 1
	}
	return uint16(65535 - total)
}

func randomText(r *rand.Rand, length int) string {
	b := make([]byte, length)
	r.Read(b)
	return string(b)
}

func TestP3CrcExamples(t *testing.T) {
	for _, c := range []struct {
		width int
		text  string
		want  uint8
	}{
		{3, "", 7}, {7, "", 127}, {8, "", 255},
		{3, "\x00", 5},
		{3, "123456789", 6}, {7, "123456789", 83}, {8, "123456789", 208},
	} {
		if n, e := Crc(c.width, c.text); n != c.want || e != api.OK {
			t.Errorf("Crc(%d, %q) = %d, %d, want %d", c.width, c.text, n, e, c.want)
		}
	}
}

func TestP3CrcOfEachByte(t *testing.T) {
	for _, m := range mixes {
		for b := range 256 {
			text := string([]byte{byte(b)})
			if n, e := Crc(m.width, text); n != slowCrc(m.width, m.mix, text) || e != api.OK {
				t.Errorf("Crc(%d, %q) = %d, %d, want %d", m.width, text, n, e, slowCrc(m.width, m.mix, text))
			}
		}
	}
}

func TestP3CrcOfEachLength(t *testing.T) {
	r := rand.New(rand.NewSource(3))
	for _, m := range mixes {
		for length := range 200 {
			text := randomText(r, length)
			if n, e := Crc(m.width, text); n != slowCrc(m.width, m.mix, text) || e != api.OK {
				t.Errorf("Crc(%d, %q) = %d, %d, want %d", m.width, text, n, e, slowCrc(m.width, m.mix, text))
			}
		}
	}
}

func TestP3CrcStaysInItsWidth(t *testing.T) {
	r := rand.New(rand.NewSource(4))
	for _, m := range mixes {
		for range 1000 {
			text := randomText(r, r.Intn(20))
			if n, _ := Crc(m.width, text); int(n) >= 1<<m.width {
				t.Errorf("Crc(%d, %q) = %d", m.width, text, n)
			}
		}
	}
}

func TestP3CrcOtherWidths(t *testing.T) {
	widths := []int{math.MinInt, math.MinInt + 3, -1 << 32, 1<<32 + 3, 256 + 8, 65536 + 7, math.MaxInt}
	for w := -300; w <= 300; w++ {
		widths = append(widths, w)
	}
	for _, w := range widths {
		if w == 3 || w == 7 || w == 8 {
			continue
		}
		for _, text := range []string{"", "\x00", "abc"} {
			if n, e := Crc(w, text); n != 0 || e != api.ErrNumber {
				t.Errorf("Crc(%d, %q) = %d, %d", w, text, n, e)
			}
		}
	}
}

func TestP3SumExamples(t *testing.T) {
	for _, c := range []struct {
		text string
		want uint16
	}{
		{"", 65535},
		{"\x00\x01\xf2\x03\xf4\xf5\xf6\xf7", 0x220d},
		{"\x00", 65535}, {"\x00\x00", 65535}, {"\x00\x00\x00", 65535},
		{"\x01", 0xfeff}, {"\x00\x01", 0xfffe}, {"\x12\x34\x56", 0x97cb},
		{"\xff\xff", 0}, {"\xff\xff\xff\xff", 0}, {"\xff\xff\x00\x00", 0},
		{"\xff\xff\x00\x01", 0xfffe}, {"\x80\x00\x80\x00", 0xfffe},
		{"\xff\xfe\x00\x01", 0}, {"\xff\xff\xff", 0x00ff},
	} {
		if n := Sum(c.text); n != c.want {
			t.Errorf("Sum(%q) = %x, want %x", c.text, n, c.want)
		}
	}
}

func TestP3SumOfEachLength(t *testing.T) {
	r := rand.New(rand.NewSource(5))
	for length := range 300 {
		for range 10 {
			text := randomText(r, length)
			if n := Sum(text); n != slowSum(text) {
				t.Errorf("Sum(%q) = %x, want %x", text, n, slowSum(text))
			}
		}
	}
}

func TestP3SumOddTextEndsInANought(t *testing.T) {
	r := rand.New(rand.NewSource(6))
	for length := 1; length < 100; length += 2 {
		text := randomText(r, length)
		if odd, even := Sum(text), Sum(text+"\x00"); odd != even {
			t.Errorf("Sum(%q) = %x, with a nought %x", text, odd, even)
		}
	}
}

// The carries of these texts do not fit into 32 bits.
func TestP1LongTexts(t *testing.T) {
	for _, part := range []string{"\xff", "\xff\xfe", "\x80", "\xfe\xdc\xba"} {
		text := strings.Repeat(part, 1<<18+1)
		if n := Sum(text); n != slowSum(text) {
			t.Errorf("Sum(%q, many times) = %x, want %x", part, n, slowSum(text))
		}
		for _, m := range mixes {
			if n, e := Crc(m.width, text); n != slowCrc(m.width, m.mix, text) || e != api.OK {
				t.Errorf("Crc(%d, %q, many times) = %d, %d", m.width, part, n, e)
			}
		}
	}
}
