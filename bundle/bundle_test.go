package bundle

import (
	"math/rand"
	"slices"
	"strings"
	"testing"

	"gist/api"
)

// told is the length ahead of a frame, in the document's words.
func told(length int) string {
	if length < 128 {
		return string([]byte{byte(length)})
	}
	return string([]byte{128 | byte(length>>8), byte(length)})
}

func slowJoin(frames []string) string {
	var b strings.Builder
	for _, f := range frames {
		b.WriteString(told(len(f)))
		b.WriteString(f)
	}
	return b.String()
}

// slowSplit tries each length that a frame may have.
func slowSplit(text string, left int) ([]string, bool) {
	if text == "" {
		return nil, true
	}
	if left == 0 {
		return nil, false
	}
	for length := range 301 {
		rest, is := strings.CutPrefix(text, told(length))
		if !is || len(rest) < length {
			continue
		}
		if frames, ok := slowSplit(rest[length:], left-1); ok {
			return append([]string{rest[:length]}, frames...), true
		}
	}
	return nil, false
}

func same(t *testing.T, text string) {
	t.Helper()
	want, ok := slowSplit(text, 8)
	l, e := Split(text)
	if ok && (!slices.Equal(l, want) || e != api.OK) {
		t.Errorf("Split(%.40q) = %.40q, %d, want %.40q", text, l, e, want)
	}
	if !ok && (l != nil || e != api.ErrFrame) {
		t.Errorf("Split(%.40q) = %.40q, %d, want ErrFrame", text, l, e)
	}
}

func refused(t *testing.T, text string) {
	t.Helper()
	if l, e := Split(text); l != nil || e != api.ErrFrame {
		t.Errorf("Split(%.40q) = %.40q, %d, want ErrFrame", text, l, e)
	}
}

func bothWays(t *testing.T, frames []string, want string) {
	t.Helper()
	if s, e := Join(frames); s != want || e != api.OK {
		t.Errorf("Join(%.40q) = %.40q, %d, want %.40q", frames, s, e, want)
	}
	if l, e := Split(want); !slices.Equal(l, frames) || e != api.OK {
		t.Errorf("Split(%.40q) = %.40q, %d, want %.40q", want, l, e, frames)
	}
}

func TestP6Ordinary(t *testing.T) {
	bothWays(t, []string{"a", ""}, "\x01a\x00")
	bothWays(t, []string{"one", "two", "three"}, "\x03one\x03two\x05three")
	bothWays(t, []string{"\x00", "\x01", "\x80\x80"}, "\x01\x00\x01\x01\x02\x80\x80")
}

func TestP6Counts(t *testing.T) {
	bothWays(t, nil, "")
	bothWays(t, []string{}, "")
	for count := range 9 {
		bothWays(t, make([]string, count), strings.Repeat("\x00", count))
		bothWays(t, slices.Repeat([]string{"x"}, count), strings.Repeat("\x01x", count))
	}
	for _, count := range []int{9, 10, 16, 256, 264, 70000} {
		if s, e := Join(make([]string, count)); s != "" || e != api.ErrMany {
			t.Errorf("Join of %d = %q, %d", count, s, e)
		}
		refused(t, strings.Repeat("\x00", count))
		refused(t, strings.Repeat("\x01x", count))
	}
}

func TestP6EachLength(t *testing.T) {
	for length := range 301 {
		x := strings.Repeat("x", length)
		bothWays(t, []string{x}, told(length)+x)
		bothWays(t, []string{"b", x, "", x}, "\x01b"+told(length)+x+"\x00"+told(length)+x)
	}
	x := strings.Repeat("x", 301)
	bothWays(t, []string{x[:127]}, "\x7f"+x[:127])
	bothWays(t, []string{x[:128]}, "\x80\x80"+x[:128])
	bothWays(t, []string{x[:255]}, "\x80\xff"+x[:255])
	bothWays(t, []string{x[:256]}, "\x81\x00"+x[:256])
	bothWays(t, []string{x[:300]}, "\x81\x2c"+x[:300])
	bothWays(t, slices.Repeat([]string{x[:300]}, 8), strings.Repeat("\x81\x2c"+x[:300], 8))
}

func TestP6JoinLongFrames(t *testing.T) {
	for _, length := range []int{301, 302, 511, 512, 556, 32768, 65536, 65537, 9000000} {
		x := strings.Repeat("x", length)
		for at := range 8 {
			frames := slices.Repeat([]string{"a"}, 8)
			frames[at] = x
			if s, e := Join(frames); s != "" || e != api.ErrLong {
				t.Errorf("Join with %d bytes at %d = %.40q, %d", length, at, s, e)
			}
		}
		if s, e := Join([]string{x, "", "", "", "", "", "", "", ""}); s != "" || e != api.ErrMany {
			t.Errorf("Join of nine with %d bytes = %.40q, %d", length, s, e)
		}
	}
}

func TestP6SplitLengthsThatJoinTellsInOneByte(t *testing.T) {
	for length := range 128 {
		text := "\x80" + string([]byte{byte(length)}) + strings.Repeat("x", length)
		refused(t, text)
		refused(t, "\x01a"+text)
		refused(t, text+"\x01a")
	}
}

func TestP6SplitLengthsAboveTheBound(t *testing.T) {
	for length := 301; length < 32768; length += 97 {
		text := string([]byte{128 | byte(length>>8), byte(length)}) + strings.Repeat("x", length)
		refused(t, text)
		refused(t, "\x01a"+text)
	}
	refused(t, "\x81\x2d"+strings.Repeat("x", 301))
	refused(t, "\xff\xff"+strings.Repeat("x", 32767))
}

func TestP6SplitPastTheEnd(t *testing.T) {
	for length := 1; length < 301; length++ {
		text := told(length) + strings.Repeat("x", length)
		for _, cut := range []int{1, length/2 + 1, length} {
			refused(t, text[:len(text)-cut])
			refused(t, "\x01a"+text[:len(text)-cut])
		}
	}
	for _, text := range []string{"\x01", "\x7f", "\x80", "\x81", "\xff", "\x01a\x80", "\x02a", "\x01a\x05b", "\x00\x00\x81"} {
		refused(t, text)
	}
}

func TestP6SplitShortTexts(t *testing.T) {
	for a := range 256 {
		same(t, string([]byte{byte(a)}))
		for b := range 256 {
			same(t, string([]byte{byte(a), byte(b)}))
			same(t, string([]byte{1, byte(a), byte(b)}))
		}
	}
}

func TestP6Drawn(t *testing.T) {
	r := rand.New(rand.NewSource(61))
	for range 3000 {
		frames := make([]string, r.Intn(9))
		for i := range frames {
			b := make([]byte, r.Intn([]int{3, 140, 301}[r.Intn(3)]))
			r.Read(b)
			frames[i] = string(b)
		}
		text := slowJoin(frames)
		bothWays(t, frames, text)
		same(t, text+"\x00")
		if text != "" {
			same(t, text[:r.Intn(len(text))])
			b := []byte(text)
			b[r.Intn(len(b))] ^= 1 << r.Intn(8)
			same(t, string(b))
		}
	}
}

func TestP1LongTexts(t *testing.T) {
	for _, part := range []string{"\x00", "\x01", "\x80", "\xff", "\x81\x2c"} {
		refused(t, strings.Repeat(part, 4000000))
	}
}

// The list lies in a longer one, whose other frames are its spare room and
// what stands ahead of it.
func TestP2JoinLeavesItsListAlone(t *testing.T) {
	for _, frames := range [][]string{
		{"ahead", "a", "", "bc", "behind", "behind"},
		{"ahead", strings.Repeat("x", 301), "a", "b", "behind", "behind"},
	} {
		before := slices.Clone(frames)
		Join(frames[1:4])
		if !slices.Equal(frames, before) {
			t.Errorf("Join made %.40q of %.40q", frames, before)
		}
	}
}

func TestP2JoinKeepsNoList(t *testing.T) {
	frames := []string{"a", "b"}
	s, _ := Join(frames)
	frames[0] = "zzz"
	if s != "\x01a\x01b" {
		t.Errorf("Join's text is %q now", s)
	}
	if s, e := Join(frames); s != "\x03zzz\x01b" || e != api.OK {
		t.Errorf("Join = %q, %d", s, e)
	}
}

func overwrite(l []string) {
	l = l[:cap(l)]
	for i := range l {
		l[i] = "overwritten"
	}
}

func TestP2SplitMakesNewLists(t *testing.T) {
	for count := range 9 {
		frames := slices.Repeat([]string{"f"}, count)
		text := slowJoin(frames)
		earlier, _ := Split(text)
		middle, _ := Split(text)
		overwrite(middle)
		later, e := Split(text)
		if !slices.Equal(earlier, frames) || !slices.Equal(later, frames) || e != api.OK {
			t.Errorf("%d frames: before %q, behind %q, %d", count, earlier, later, e)
		}
		overwrite(later)
		if !slices.Equal(earlier, frames) {
			t.Errorf("%d frames: an earlier list is %q now", count, earlier)
		}
	}
}
