package sender

import (
	"fmt"
	"strings"
	"testing"

	"gist/api"
)

func TestHearEveryTwoBytes(t *testing.T) {
	for flows := range 4 {
		for first := range 256 {
			for second := range 256 {
				s := begun(t, 3, 1, 9)
				for port := range flows {
					send(t, s, regular(uint16(port), 1))
				}
				want := api.ErrFeedback
				if (first == 'S' || first == 'D') && second < flows {
					want = api.OK
				}
				if e := s.Hear(string([]byte{byte(first), byte(second)})); e != want {
					t.Errorf("%d flows: Hear(%x %x) = %d, want %d", flows, first, second, e, want)
				}
			}
		}
	}
}

func TestHearOtherLengths(t *testing.T) {
	s := begun(t, 8, 1, 9)
	for port := range 8 {
		send(t, s, regular(uint16(port), 1))
	}
	for _, x := range []string{"", "S", "D", "\x00", "S\x00\x00", "D\x01D", "SS\x00", "S\x00D\x00", strings.Repeat("D\x00", 1<<19)} {
		if e := s.Hear(x); e != api.ErrFeedback {
			t.Errorf("Hear(%.10q) = %d", x, e)
		}
	}
	for cid := range 8 {
		for _, letter := range []byte("SD") {
			if e := s.Hear(string([]byte{letter, byte(cid)})); e != api.OK {
				t.Errorf("Hear(%c %d) = %d", letter, cid, e)
			}
		}
	}
}

func TestCountsBecomeKeep(t *testing.T) {
	for keep := 1; keep <= 4; keep++ {
		whole, full := strings.Repeat("W", keep), strings.Repeat("F", keep)
		for _, c := range []struct{ heard, want string }{
			{"S", whole + "tt"}, {"D", full + "tt"},
			{"SS", whole + "tt"}, {"DD", full + "tt"},
			{"SD", whole + full + "tt"}, {"DS", whole + full + "tt"},
			{"S1S", "W" + whole + "tt"}, {"D1D", "F" + full + "tt"},
			{"D1S", "F" + whole + full[1:] + "tt"}, {"S1D", whole + full + "tt"},
			{"D1S1D", "FW" + whole[1:] + full + "tt"},
		} {
			s := begun(t, 1, keep, 100)
			n := 10
			kinds(t, s, 1, n)
			l := ""
			for _, x := range c.heard {
				if x == '1' {
					n++
					l += kinds(t, s, n, n)
					continue
				}
				hear(t, s, string(x)+"\x00")
			}
			l += kinds(t, s, n+1, n+len(c.want)-len(l))
			wants(t, fmt.Sprintf("Keep %d, %s", keep, c.heard), l, c.want)
		}
	}
}

func TestHearAmongTheFirstFrames(t *testing.T) {
	for _, c := range []struct {
		behind      int
		heard, want string
	}{
		{1, "S\x00", "WWWWtt"}, {2, "S\x00", "WWWWWtt"}, {3, "S\x00", "WWWWWWtt"}, {4, "S\x00", "WWWFWWWtt"},
		{1, "D\x00", "WWWFFFtt"}, {3, "D\x00", "WWWFFFtt"}, {4, "D\x00", "WWWFFFFtt"},
	} {
		s := begun(t, 1, 3, 100)
		l := kinds(t, s, 1, c.behind)
		hear(t, s, c.heard)
		l += kinds(t, s, c.behind+1, len(c.want))
		wants(t, fmt.Sprintf("%q behind %d", c.heard, c.behind), l, c.want)
	}
}

// A whole frame that AGE asks for leaves the count FULL as it is; one that
// AGE and the count WHOLE ask for at once is counted.
func TestCountsAndAge(t *testing.T) {
	for _, c := range []struct {
		keep, refresh int
		ahead         string
		heard, behind string
	}{
		{2, 4, "WWFt", "D\x00", "FWFttWttt"},
		{4, 3, "WWWWFtWttWt", "D\x00", "FWFFWFtW"},
		{2, 2, "WWF", "S\x00", "WWtWt"},
		{3, 2, "WWWFWt", "S\x00", "WWWtWt"},
		{1, 2, "WF", "S\x00", "WtWt"},
		{1, 5, "WFt", "S\x00", "WttttWtttt"},
		{1, 5, "WFttt", "S\x00", "WttttWtttt"},
		{1, 5, "WFt", "D\x00", "FtWtttt"},
		{1, 5, "WFttt", "D\x00", "WFtttW"},
	} {
		s := begun(t, 1, c.keep, c.refresh)
		n := len(c.ahead)
		what := fmt.Sprintf("Keep %d, Refresh %d, %q behind %d", c.keep, c.refresh, c.heard, n)
		wants(t, what, kinds(t, s, 1, n), c.ahead)
		hear(t, s, c.heard)
		wants(t, what, kinds(t, s, n+1, n+len(c.behind)), c.behind)
	}
}

func TestFeedbackIsOfOneContext(t *testing.T) {
	for _, heard := range []string{"S\x01", "D\x01"} {
		s := begun(t, 3, 1, 100)
		for n := range 5 {
			for port := range 3 {
				send(t, s, regular(uint16(port), n))
			}
		}
		hear(t, s, heard)
		l := ""
		for n := 5; n < 7; n++ {
			for port := range 3 {
				l += kind(t, s, regular(uint16(port), n))
			}
		}
		wants(t, fmt.Sprintf("%q", heard), l, map[byte]string{'S': "tWtttt", 'D': "tFtttt"}[heard[0]])
	}
}
