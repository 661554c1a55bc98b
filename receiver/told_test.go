package receiver

import (
	"testing"

	"gist/api"
	"gist/frame"
	"gist/state"
)

var route = api.Route{Src: 9, Dst: 8, Port: 7}

// stood is a receiver whose context 0 is at a state.
func stood(t *testing.T, s state.State) *Receiver {
	t.Helper()
	r := begun(t, 1)
	p := s.Packet(route, "")
	takes(t, r, frame.Make(api.Whole, frame.Place{}, p, s), p)
	return r
}

// tells: a frame of this kind leads from one state to another, and what comes
// out is the packet of that.
func tells(t *testing.T, kind uint8, from, to state.State) {
	t.Helper()
	r := stood(t, from)
	p := to.Packet(route, "body")
	takes(t, r, frame.Make(kind, frame.Place{}, p, to), p)
	if want := (context{begun: true, route: route, state: to}); r.contexts[0] != want {
		t.Fatalf("from %+v: %+v, want %+v", from, r.contexts[0], want)
	}
}

// tellsNot: a frame made of the one state is understood as the other one, of
// which the check is right by chance or not.
func tellsNot(t *testing.T, kind uint8, from, to, other state.State) {
	t.Helper()
	r := stood(t, from)
	p, q := to.Packet(route, "body"), other.Packet(route, "body")
	f := frame.Make(kind, frame.Place{}, p, to)
	if f == frame.Make(kind, frame.Place{}, q, other) {
		takes(t, r, f, q)
		return
	}
	misses(t, r, f, "", api.ErrCheck)
}

var (
	seqs16 = []uint16{0, 1, 2, 7, 15, 16, 100, 127, 128, 255, 256, 257, 32767, 32768, 65279, 65280, 65281, 65520, 65521, 65533, 65534, 65535}
	lags   = []uint32{0, 1, 127, 128, 129, 255, 256, 65535, 65536, 1 << 31, 1<<32 - 129, 1<<32 - 128, 1<<32 - 127, 1<<32 - 2, 1<<32 - 1}
)

// tellsJust: from a state a frame of this kind tells the steps from least to
// most; those beyond are understood as the one among these with the same bits.
func tellsJust(t *testing.T, kind uint8, from state.State, least, most int, step func(state.State, int) state.State) {
	t.Helper()
	for n := least; n <= most; n++ {
		tells(t, kind, from, step(from, n))
	}
	count := most - least + 1
	for _, n := range []int{1, 2, count / 2, count} {
		tellsNot(t, kind, from, step(from, least-n), step(from, least-n+count))
		tellsNot(t, kind, from, step(from, most+n), step(from, most+n-count))
	}
}

func stepSeq(s state.State, step int) state.State {
	s.Seq += uint16(step)
	return s
}

func TestSeqByFourBits(t *testing.T) {
	for _, seq := range seqs16 {
		from := state.State{Seq: seq, Stride: 160, Offset: 65000, Lag: 1<<32 - 5, Flags: 17}
		tellsJust(t, api.Tiny, from, -1, 14, stepSeq)
	}
}

func TestSeqByEightBits(t *testing.T) {
	for _, seq := range seqs16 {
		from := state.State{Seq: seq, Stride: 65535, Offset: 3, Lag: 77, Flags: 255}
		tellsJust(t, api.Short, from, -1, 254, stepSeq)
	}
}

func TestOffsetByEightBits(t *testing.T) {
	for _, offset := range seqs16 {
		from := state.State{Seq: 65535, Stride: 10, Offset: offset, Lag: 77, Flags: 1}
		tellsJust(t, api.Short, from, -128, 127, func(s state.State, step int) state.State {
			s.Seq++
			s.Offset += uint16(step)
			return s
		})
	}
}

func TestLagByEightBits(t *testing.T) {
	for _, lag := range lags {
		from := state.State{Seq: 9, Stride: 40000, Offset: 3, Lag: lag}
		tellsJust(t, api.Short, from, -128, 127, func(s state.State, step int) state.State {
			s.Seq += 2
			s.Lag += uint32(step)
			return s
		})
	}
}

// All three at their edges at once.
func TestAllByEightBits(t *testing.T) {
	for _, seq := range []int{-1, 0, 254} {
		for _, offset := range []int{-128, 0, 127} {
			for _, lag := range []int{-128, 0, 127} {
				for _, n := range seqs16 {
					from := state.State{Seq: n, Stride: 3, Offset: n * 3, Lag: uint32(n) << 16, Flags: uint8(n)}
					to := from
					to.Seq += uint16(seq)
					to.Offset += uint16(offset)
					to.Lag += uint32(lag)
					tells(t, api.Short, from, to)
				}
			}
		}
	}
}

// A FULL frame leads from any state to any other.
func TestAllByFull(t *testing.T) {
	for _, seq := range seqs16 {
		for _, lag := range lags {
			from := state.State{Seq: 3, Stride: 3, Offset: 3, Lag: 3, Flags: 3}
			to := state.State{Seq: seq, Stride: seq * 7, Offset: uint16(lag), Lag: lag, Flags: uint8(lag)}
			tells(t, api.Full, from, to)
			tells(t, api.Full, to, from)
		}
	}
}

// Of each 4 bits one check is right, and what it tells has these lowest bits
// and is one of the numbers that they can tell.
func TestEveryTiny(t *testing.T) {
	for _, seq := range seqs16 {
		from := state.State{Seq: seq, Stride: 160, Offset: 1, Lag: 2, Flags: 3}
		believed := 0
		for n := 0; n < 256; n += 2 {
			p, _, e := stood(t, from).Take(string([]byte{0, byte(n)}))
			if e != api.OK {
				continue
			}
			believed++
			want := from
			want.Seq = p.Seq
			if int(p.Seq%16) != n/16 || p.Seq-(seq-1) > 15 || p != want.Packet(route, "") {
				t.Errorf("Seq %d: Take(00%02x) = %+v", seq, n, p)
			}
		}
		if believed != 16 {
			t.Errorf("Seq %d: %d of 128 are believed", seq, believed)
		}
	}
}
