package sender

import (
	"fmt"
	"strings"
	"testing"

	"gist/api"
)

func TestFirstFrames(t *testing.T) {
	for keep := 1; keep <= 4; keep++ {
		s := begun(t, 1, keep, 100)
		wants(t, fmt.Sprintf("Keep %d", keep), kinds(t, s, 1, 10), strings.Repeat("W", keep)+"F"+strings.Repeat("t", 9-keep))
		// Where Seq does not go up by one STRIDE is 0 from the first on.
		s = begun(t, 1, keep, 100)
		l := ""
		for range 10 {
			l += kind(t, s, regular(1, 5))
		}
		wants(t, fmt.Sprintf("Keep %d, one packet again and again", keep), l, strings.Repeat("W", keep)+strings.Repeat("t", 10-keep))
	}
}

func TestAge(t *testing.T) {
	for _, c := range []struct {
		keep, refresh int
		want          string
	}{
		{1, 2, "WFWtWtWtWtWt"}, {1, 3, "WFtWttWttWttW"}, {1, 4, "WFttWtttWtttW"},
		{2, 2, "WWFWtWtWtWt"}, {3, 3, "WWWFtWttWtt"}, {4, 2, "WWWWFWtWtW"}, {4, 3, "WWWWFtWttWttW"},
		{1, 99, "WF" + strings.Repeat("t", 97) + "W" + strings.Repeat("t", 98) + "W"},
		{1, 100, "WF" + strings.Repeat("t", 98) + "W" + strings.Repeat("t", 99) + "Wt"},
		{4, 100, "WWWWF" + strings.Repeat("t", 98) + "W" + strings.Repeat("t", 99) + "Wt"},
	} {
		s := begun(t, 1, c.keep, c.refresh)
		wants(t, fmt.Sprintf("Keep %d, Refresh %d", c.keep, c.refresh), kinds(t, s, 1, len(c.want)), c.want)
	}
}

// AGE counts on one context alone, and every kind counts.
func TestAgeOfEachContext(t *testing.T) {
	s := begun(t, 2, 1, 4)
	l := ""
	for n := range 9 {
		l += kind(t, s, regular(1, n))
		l += kind(t, s, regular(2, n))
	}
	wants(t, "two flows in turn", l, "WWFFttttWWttttttWW")
	for _, c := range []struct {
		flags uint8
		want  string
	}{{0, "WsssWsssW"}, {1, "WFFFWFFFW"}} {
		s = begun(t, 1, 1, 4)
		l = ""
		for n := range 9 {
			p := regular(1, 2*n)
			p.Flags = c.flags * uint8(n)
			l += kind(t, s, p)
		}
		wants(t, "short and full ones", l, c.want)
	}
}

// off is a regular packet with one field other than expected.
func off(n int, id, time, flags int) api.Packet {
	p := regular(1, n)
	p.Id += uint16(id)
	p.Time += uint32(time)
	p.Flags = uint8(flags)
	return p
}

// One odd packet tells which states are kept: as long as its state is one of
// them no frame is tiny.
func TestHowManyStatesAreKept(t *testing.T) {
	for keep := 1; keep <= 4; keep++ {
		for _, c := range []struct {
			what string
			odd  api.Packet
			want string
		}{
			{"Flags", off(20, 0, 0, 1), "F" + strings.Repeat("F", keep) + "ttt"},
			{"Id by 1", off(20, 1, 0, 0), "s" + strings.Repeat("s", keep) + "ttt"},
			{"Id by 128", off(20, 128, 0, 0), "F" + strings.Repeat("s", keep) + "ttt"}, // back by 128 is told
			{"Id by 129", off(20, 129, 0, 0), "F" + strings.Repeat("F", keep) + "ttt"},
			{"Id by -128", off(20, -128, 0, 0), "s" + strings.Repeat("F", keep) + "ttt"},
			{"Time by 1", off(20, 0, 1, 0), "F" + "F" + strings.Repeat("F", keep) + "ttt"}, // two strides
			{"Time by 65536", off(20, 0, 65536, 0), "F" + strings.Repeat("F", keep) + "ttt"},
		} {
			s := begun(t, 1, keep, 100)
			kinds(t, s, 1, 19)
			l := kind(t, s, c.odd)
			l += kinds(t, s, 21, 20+len(c.want)-1)
			wants(t, fmt.Sprintf("Keep %d, %s", keep, c.what), l, c.want)
		}
	}
}

// Seq is told with each state as reference: the last one bounds it below, the
// oldest one above.
func TestSeqJustToldAndNot(t *testing.T) {
	for keep := 1; keep <= 4; keep++ {
		for _, last := range []int{1000, 32767, 65000, 65282, 65520, 65535, 65536, 65537, 65538, 65539, 65550} {
			for step := -300; step <= 300; step++ {
				s := begun(t, 1, keep, 100)
				kinds(t, s, last-12, last)
				want := "F"
				if step >= -1 && step+keep-1 <= 254 {
					want = "s"
				}
				if step >= -1 && step+keep-1 <= 14 {
					want = "t"
				}
				wants(t, fmt.Sprintf("Keep %d, from %d by %d", keep, last, step), kind(t, s, regular(1, last+step)), want)
			}
		}
	}
}

// spread sends a flow of which the last Keep states have the same STRIDE, and
// of which one, so many packets ago, has its OFFSET and LAG by so much more.
// Then a packet with others comes.
func spread(t *testing.T, keep int, first api.Packet, ago int, more, next [2]int) string {
	t.Helper()
	s := begun(t, 1, keep, 100)
	p := first
	send(t, s, p)
	p.Seq, p.Id, p.Time = p.Seq+1, p.Id+1, p.Time+300 // STRIDE is 300
	send(t, s, p)
	for i := range 2 * keep {
		p.Seq, p.Id, p.Time = p.Seq+2, p.Id+2, p.Time+600
		q := p
		if i == 2*keep-1-ago {
			q.Id, q.Time = q.Id+uint16(more[0]), q.Time+uint32(more[1])
		}
		send(t, s, q)
	}
	p.Seq, p.Id, p.Time = p.Seq+2, p.Id+2, p.Time+600
	p.Id, p.Time = p.Id+uint16(next[0]), p.Time+uint32(next[1])
	return kind(t, s, p)
}

func TestOffsetAndLagJustToldAndNot(t *testing.T) {
	firsts := []api.Packet{
		{Seq: 100, Id: 5100, Time: 1 << 20},
		{Seq: 100, Id: 100, Time: 30000},           // both about 0
		{Seq: 100, Id: 99, Time: 29999},            // and the greatest
		{Seq: 40000, Id: 30, Time: 12},             // Id and Time below Seq and the way
		{Seq: 100, Id: 100 + 32768, Time: 1 << 31}, // the middle
		{Seq: 100, Id: 65530, Time: 1<<32 - 5},     // Id and Time go past their greatest
	}
	for _, first := range firsts {
		for keep := 1; keep <= 4; keep++ {
			for ago := range keep {
				for _, more := range []int{0, 40, -40, 127, -128} {
					lowest, highest := max(more, 0)-128, min(more, 0)+127
					if keep == 1 {
						lowest, highest = more-128, more+127
					}
					for _, next := range []int{lowest - 1, lowest, -1, 0, 1, highest, highest + 1, highest + 256, 32768} {
						want := "F"
						if next >= lowest && next <= highest {
							want = "s"
						}
						if next == 0 && more == 0 {
							want = "t"
						}
						what := fmt.Sprintf("%+v, Keep %d, the state %d ago by %d, by %d: ", first, keep, ago, more, next)
						wants(t, what+"OFFSET", spread(t, keep, first, ago, [2]int{more, 0}, [2]int{next, 0}), want)
						wants(t, what+"LAG", spread(t, keep, first, ago, [2]int{0, more}, [2]int{0, next}), want)
					}
				}
			}
		}
	}
}

// A SHORT frame must tell both; what is far off modulo 2^16 is not near modulo 2^32.
func TestOffsetAndLagTogether(t *testing.T) {
	first := api.Packet{Seq: 100, Id: 5100, Time: 1 << 20}
	for _, c := range []struct {
		next [2]int
		want string
	}{
		{[2]int{127, 127}, "s"}, {[2]int{-128, -128}, "s"}, {[2]int{-128, 127}, "s"},
		{[2]int{128, 127}, "F"}, {[2]int{127, 128}, "F"}, {[2]int{-129, 0}, "F"}, {[2]int{0, -129}, "F"},
		{[2]int{65536, 0}, "t"}, {[2]int{0, 65536}, "F"}, {[2]int{0, -65536}, "F"}, {[2]int{0, 1 << 31}, "F"},
	} {
		for keep := 1; keep <= 4; keep++ {
			wants(t, fmt.Sprintf("Keep %d, by %v", keep, c.next), spread(t, keep, first, 0, [2]int{}, c.next), c.want)
		}
	}
}

// strideIn tells the STRIDE of a whole or full frame.
func strideIn(t *testing.T, f string) int {
	t.Helper()
	at := 10
	if f[0]>>6 == api.Whole {
		at = 20
	} else if f[0]>>6 != api.Full {
		t.Fatalf("%x tells no stride", f)
	}
	return int(f[at])<<8 | int(f[at+1])
}

func TestStride(t *testing.T) {
	for _, c := range []struct {
		seq1, seq2   uint16
		time1, time2 uint32
		want         int
	}{
		{5, 6, 100, 110, 10}, {5, 6, 100, 100, 0}, {5, 6, 100, 99, 65535}, {5, 6, 100, 65635, 65535}, {5, 6, 100, 65636, 0}, {5, 6, 100, 65637, 1},
		{5, 6, 4294967295, 4, 5}, {5, 6, 4, 4294967295, 65531}, {5, 6, 0, 1 << 31, 0}, {65535, 0, 100, 110, 10}, {0, 1, 100, 110, 10},
		{5, 5, 100, 110, 77}, {5, 4, 100, 110, 77}, {5, 7, 100, 120, 77}, {0, 65535, 100, 110, 77}, {65535, 65535, 1, 2, 77}, {5, 261, 100, 110, 77}, {5, 262, 100, 110, 77},
	} {
		s := begun(t, 1, 4, 100)
		wants(t, "the first", fmt.Sprint(strideIn(t, send(t, s, api.Packet{Seq: c.seq1 - 1, Time: c.time1 - 77}))), "0")
		wants(t, "the second", fmt.Sprint(strideIn(t, send(t, s, api.Packet{Seq: c.seq1, Time: c.time1}))), "77")
		got := strideIn(t, send(t, s, api.Packet{Seq: c.seq2, Time: c.time2}))
		wants(t, fmt.Sprintf("%+v", c), fmt.Sprint(got), fmt.Sprint(c.want))
	}
}

// STRIDE goes from one packet to the next in frames that do not tell it.
func TestStrideBehindEachKind(t *testing.T) {
	s := begun(t, 1, 1, 100)
	wants(t, "regular", kinds(t, s, 1, 4), "WFtt")
	hear(t, s, "D\x00")
	wants(t, "behind a tiny one, one left out", fmt.Sprint(strideIn(t, send(t, s, regular(1, 6)))), "10")
	wants(t, "short", kind(t, s, off(8, 5, 3, 0)), "s")
	hear(t, s, "D\x00")
	wants(t, "behind a short one", fmt.Sprint(strideIn(t, send(t, s, off(9, 5, 7, 0)))), "14")
	wants(t, "two steps on", kind(t, s, api.Packet{Route: regular(1, 0).Route, Seq: 11, Id: 9 + 7 + 5 + 2, Time: 1097 + 28}), "t")
	hear(t, s, "S\x00")
	wants(t, "back", fmt.Sprint(strideIn(t, send(t, s, regular(1, 3)))), "14")
}

// With the Time going on regularly the LAG jumps where Seq goes past 65535, by
// 65536 times STRIDE.
func TestSeqPastItsGreatest(t *testing.T) {
	for keep := 1; keep <= 4; keep++ {
		for _, stride := range []int{0, 10, 65535} {
			s := begun(t, 1, keep, 100)
			l := ""
			for n := range 24 {
				l += kind(t, s, api.Packet{Seq: uint16(65524 + n), Id: uint16(n), Time: uint32(5000 + stride*n)})
			}
			want := strings.Repeat("W", keep) + "F" + strings.Repeat("t", 11-keep) + strings.Repeat("F", keep) + strings.Repeat("t", 12-keep)
			if stride == 0 {
				want = strings.Repeat("W", keep) + strings.Repeat("t", 24-keep)
			}
			wants(t, fmt.Sprintf("Keep %d, STRIDE %d", keep, stride), l, want)
		}
	}
}

// The product of STRIDE and Seq goes past 16 bits without a trace.
func TestTinyAtGreatProducts(t *testing.T) {
	for _, stride := range []int{1, 255, 256, 6553, 32768, 65535} {
		s := begun(t, 1, 1, 100)
		for n := range 65536 {
			f := send(t, s, api.Packet{Seq: uint16(n), Id: uint16(n + 50), Time: uint32(4294000000 + stride*n)})
			want := byte(api.Tiny)
			if n == 1 {
				want = api.Full
			}
			if n%100 == 0 {
				want = api.Whole
			}
			if f[0]>>6 != want {
				t.Fatalf("STRIDE %d, packet %d: %x, want kind %d", stride, n, f, want)
			}
		}
	}
}
