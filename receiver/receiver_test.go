package receiver

import (
	"math"
	"slices"
	"strings"
	"testing"

	"gist/api"
	"gist/frame"
	"gist/state"
)

func begun(t *testing.T, cids int) *Receiver {
	t.Helper()
	r, e := New(api.Config{Cids: cids, Keep: 2, Refresh: 9})
	if e != api.OK {
		t.Fatalf("New with Cids %d: %d", cids, e)
	}
	return &r
}

// regular is packet n of a flow: STRIDE 10, OFFSET 7, LAG 1000.
func regular(port uint16, n int) api.Packet {
	seq := uint16(n)
	route := api.Route{Src: 1, Dst: 2, Port: port}
	return api.Packet{Route: route, Seq: seq, Time: 1000 + 10*uint32(seq), Id: 7 + seq, Flags: 3}
}

// made is the frame of a packet with STRIDE 10.
func made(kind int, cid, turn int, p api.Packet) string {
	return frame.Make(uint8(kind), frame.Place{Cid: uint8(cid), Turn: uint8(turn)}, p, state.Of(p, 10))
}

func takes(t *testing.T, r *Receiver, f string, want api.Packet) {
	t.Helper()
	if p, back, e := r.Take(f); p != want || back != "" || e != api.OK {
		t.Fatalf("Take(%x) = %+v, %q, %d, want %+v", f, p, back, e, want)
	}
}

func misses(t *testing.T, r *Receiver, f string, back string, want api.Errno) {
	t.Helper()
	if p, b, e := r.Take(f); p != (api.Packet{}) || b != back || e != want {
		t.Fatalf("Take(%.30x) = %+v, %q, %d, want %q, %d", f, p, b, e, back, want)
	}
}

// asksFor is the feedback of a context, by the error and by MISSED behind it.
func asksFor(e api.Errno, missed int, cid int) string {
	letters := []string{"S", "", "D", ""}
	if e == api.ErrContext {
		letters = []string{"", "S", "", ""}
	}
	letter := letters[missed%4]
	if letter == "" {
		return ""
	}
	return letter + string([]byte{byte(cid)})
}

// turned is a text with one bit turned over.
func turned(text string, bit int) string {
	b := []byte(text)
	b[bit/8] ^= 1 << (bit % 8)
	return string(b)
}

// spoilt is a frame whose check is not right, of any kind.
func spoilt(f string) string {
	at := 8 * []int{1, 4, 12, 22}[f[0]>>6]
	return turned(f, at+1)
}

func TestNew(t *testing.T) {
	for _, n := range []int{math.MinInt, -1, 0, 1, 2, 3, 4, 5, 7, 8, 9, 99, 100, 101, 256, 1 << 32, 1<<32 + 2, math.MaxInt} {
		for _, c := range []struct {
			config api.Config
			is     bool
		}{
			{api.Config{Cids: n, Keep: 1, Refresh: 2}, n >= 1 && n <= 8},
			{api.Config{Cids: 8, Keep: n, Refresh: 100}, n >= 1 && n <= 4},
			{api.Config{Cids: 1, Keep: 4, Refresh: n}, n >= 2 && n <= 100},
		} {
			r, e := New(c.config)
			want := api.ErrConfig
			if c.is {
				want = api.OK
			}
			if e != want || (e != api.OK && r != Receiver{}) || r.Flows() != nil {
				t.Errorf("New(%+v) = %+v, %d", c.config, r, e)
			}
		}
	}
}

// Each kind in its turn, and what each of them leaves behind.
func TestEachKind(t *testing.T) {
	r := begun(t, 3)
	for n, kind := range []int{api.Whole, api.Whole, api.Full, api.Tiny, api.Short, api.Tiny, api.Full, api.Short, api.Whole, api.Short} {
		p := regular(4, n)
		p.Body = strings.Repeat("b", n)
		takes(t, r, made(kind, 2, 1, p), p)
		if l := r.Flows(); !slices.Equal(l, []api.Flow{{Cid: 2, Turn: 1, Route: p.Route, Seq: uint16(n)}}) {
			t.Errorf("behind packet %d: %+v", n, l)
		}
		if want := (context{begun: true, route: p.Route, turn: 1, state: state.Of(p, 10)}); r.contexts[2] != want {
			t.Errorf("behind packet %d: %+v, want %+v", n, r.contexts[2], want)
		}
	}
	for _, cid := range []int{0, 1, 3, 4, 5, 6, 7} {
		if r.contexts[cid] != (context{}) {
			t.Errorf("context %d: %+v", cid, r.contexts[cid])
		}
	}
}

// A FULL frame says STRIDE and Flags anew, and not the route.
func TestFull(t *testing.T) {
	r := begun(t, 1)
	takes(t, r, made(api.Whole, 0, 0, regular(4, 1)), regular(4, 1))
	p := api.Packet{Route: regular(4, 0).Route, Seq: 60000, Time: 1 << 31, Id: 5, Flags: 255, Body: "hi"}
	s := state.Of(p, 65535)
	takes(t, r, frame.Make(api.Full, frame.Place{}, p, s), p)
	s.Seq++
	p = s.Packet(p.Route, "")
	if p.Time != 1<<31+65535 || p.Flags != 255 {
		t.Fatalf("%+v", p)
	}
	takes(t, r, frame.Make(api.Tiny, frame.Place{}, p, s), p)
	// The same bytes in a context of another route are spoilt.
	misses(t, r, made(api.Full, 0, 0, regular(5, 1)), "", api.ErrCheck)
}

// A WHOLE frame puts another route, turn and state into a context, also one
// of an older turn; those that follow are of that flow.
func TestWholeTakesThePlace(t *testing.T) {
	for _, turns := range [][2]int{{0, 1}, {3, 0}, {1, 0}, {2, 2}, {0, 3}} {
		r := begun(t, 2)
		takes(t, r, made(api.Whole, 1, turns[0], regular(1, 5)), regular(1, 5))
		takes(t, r, made(api.Tiny, 1, turns[0], regular(1, 6)), regular(1, 6))
		p := regular(2, 40000)
		p.Flags = 0
		takes(t, r, made(api.Whole, 1, turns[1], p), p)
		if l := r.Flows(); !slices.Equal(l, []api.Flow{{Cid: 1, Turn: uint8(turns[1]), Route: p.Route, Seq: 40000}}) {
			t.Errorf("turns %v: %+v", turns, l)
		}
		p.Seq, p.Id, p.Time = p.Seq+3, p.Id+3, p.Time+30
		takes(t, r, made(api.Tiny, 1, turns[1], p), p)
	}
}

// One bit of a WHOLE frame's header or check turned: not believed, nothing
// changed and nothing counted. STRIDE and the body have no check.
func TestSpoiltWhole(t *testing.T) {
	first, second := regular(1, 5), regular(2, 9)
	second.Body = "hi"
	for _, missed := range []int{0, 1, 3} {
		for _, empty := range []bool{false, true} {
			r := begun(t, 1)
			if !empty {
				takes(t, r, made(api.Whole, 0, 0, first), first)
			}
			for range missed {
				r.Take(made(api.Full, 0, 1, first))
			}
			was := *r
			whole := made(api.Whole, 0, 1, second)
			for bit := 8; bit < 8*20; bit++ {
				misses(t, r, turned(whole, bit), "", api.ErrCheck)
			}
			for bit := 8 * 22; bit < 8*23; bit++ {
				misses(t, r, turned(whole, bit), "", api.ErrCheck)
			}
			if *r != was {
				t.Errorf("MISSED %d: %+v, before %+v", missed, *r, was)
			}
			takes(t, r, whole, second)
			if r.contexts[0].missed != 0 {
				t.Errorf("MISSED behind a whole frame: %d", r.contexts[0].missed)
			}
		}
	}
	r := begun(t, 1)
	whole := made(api.Whole, 0, 0, second)
	takes(t, r, whole[:20]+"\xff\xfe"+whole[22:], second)
	if r.contexts[0].state != state.Of(second, 65534) {
		t.Errorf("another STRIDE: %+v", r.contexts[0].state)
	}
	other := second
	other.Body = "HI!"
	takes(t, r, whole[:23]+"HI!", other)
}

func TestContextsAreApart(t *testing.T) {
	r := begun(t, 8)
	for cid := range 8 {
		p := regular(uint16(cid), 100*cid)
		takes(t, r, made(api.Whole, cid, cid%4, p), p)
	}
	for n := 1; n < 30; n++ {
		for cid := range 8 {
			if (n+cid)%3 == 0 {
				r.Take(made(api.Tiny, cid, (cid+1)%4, regular(uint16(cid), 100*cid+n)))
				continue
			}
			p := regular(uint16(cid), 100*cid+n)
			takes(t, r, made((n+cid)%2, cid, cid%4, p), p)
		}
	}
	for cid, l := range r.Flows() {
		seq, missed := 100*cid+29, 0
		if (29+cid)%3 == 0 {
			seq, missed = seq-1, 1
		}
		if want := (api.Flow{Cid: uint8(cid), Turn: uint8(cid % 4), Route: regular(uint16(cid), 0).Route, Seq: uint16(seq), Count: missed}); l != want {
			t.Errorf("context %d: %+v, want %+v", cid, l, want)
		}
	}
}

func TestTwoReceiversInTurn(t *testing.T) {
	frames := func(port uint16) []string {
		l := []string{made(api.Full, 0, 0, regular(port, 0)), made(api.Whole, 0, 0, regular(port, 1))}
		for n := 2; n < 40; n++ {
			f := made(n%3, 0, 0, regular(port, n))
			if n%5 == 0 {
				f = spoilt(f)
			}
			l = append(l, f)
		}
		return l
	}
	type answer struct {
		p     api.Packet
		back  string
		e     api.Errno
		flows string
	}
	ask := func(r *Receiver, f string) answer {
		p, back, e := r.Take(f)
		l := ""
		for _, flow := range r.Flows() {
			l += string([]byte{flow.Cid, flow.Turn, byte(flow.Port), byte(flow.Seq), byte(flow.Count)})
		}
		return answer{p, back, e, l}
	}
	alone := func(port uint16) []answer {
		r := begun(t, 1)
		var l []answer
		for _, f := range frames(port) {
			l = append(l, ask(r, f))
		}
		return l
	}
	first, second := alone(1), alone(2)
	r, s := begun(t, 1), begun(t, 1)
	one, two := frames(1), frames(2)
	for n := range one {
		if n >= 3 {
			if got := ask(s, two[n-3]); got != second[n-3] {
				t.Fatalf("frame %d of the second: %+v, alone %+v", n-3, got, second[n-3])
			}
		}
		if got := ask(r, one[n]); got != first[n] {
			t.Fatalf("frame %d of the first: %+v, alone %+v", n, got, first[n])
		}
	}
}

func TestFlowsAreNewMemory(t *testing.T) {
	for flows := range 9 {
		r := begun(t, 8)
		for cid := range flows {
			takes(t, r, made(api.Whole, cid, 1, regular(uint16(cid), cid)), regular(uint16(cid), cid))
		}
		earlier := r.Flows()
		want := slices.Clone(earlier)
		l := r.Flows()
		l = l[:cap(l)]
		for i := range l {
			l[i] = api.Flow{Cid: 77, Turn: 77, Count: 77}
		}
		if later := r.Flows(); len(earlier) != flows || !slices.Equal(earlier, want) || !slices.Equal(later, want) {
			t.Errorf("%d flows: earlier %+v, later %+v, want %+v", flows, earlier, later, want)
		}
	}
}
