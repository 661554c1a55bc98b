package gist

import (
	"fmt"
	"math/rand"
	"strings"
	"testing"

	"gist/api"
)

// flows are packets of several flows, now regular and now by what is just told
// and just not told.
type flows struct {
	g    *rand.Rand
	last []api.Packet
	step []int // of Time
	calm int
	port int
}

func oneOf(g *rand.Rand, l ...int) int {
	return l[g.Intn(len(l))]
}

func someFlows(g *rand.Rand, count int) *flows {
	l := &flows{g: g, calm: oneOf(g, 2, 6, 20)}
	for port := range count {
		route := api.Route{Src: uint32(oneOf(g, 0, 1, 1<<32-1)), Dst: 5, Port: uint16(port)}
		l.last = append(l.last, api.Packet{Route: route, Seq: uint16(oneOf(g, 0, 65520, g.Intn(65536))), Id: uint16(oneOf(g, 0, 65520, g.Intn(65536))), Time: uint32(oneOf(g, 0, 1<<32-900, g.Intn(1<<32)))})
		l.step = append(l.step, oneOf(g, 0, 1, 10, 160, 40000, 65535))
	}
	return l
}

func (l *flows) next() api.Packet {
	g := l.g
	if g.Intn(4) == 0 {
		l.port = g.Intn(len(l.last))
	}
	p := &l.last[l.port]
	step := 1
	if g.Intn(l.calm) == 0 {
		step = oneOf(g, 0, -1, -2, 2, 3, 4, 5, 7, 11, 12, 13, 14, 15, 16, 100, 126, 127, 128, 251, 252, 253, 254, 255, 256, g.Intn(65536))
	}
	p.Seq += uint16(step)
	p.Id += uint16(step)
	p.Time += uint32(l.step[l.port] * step)
	if g.Intn(2*l.calm) == 0 {
		p.Id += uint16(oneOf(g, 1, -1, 60, 127, 128, -128, -129, g.Intn(65536)))
	}
	if g.Intn(2*l.calm) == 0 {
		p.Time += uint32(oneOf(g, 1, -1, 60, 127, 128, -128, -129, g.Intn(1<<32)))
	}
	if g.Intn(4*l.calm) == 0 {
		p.Flags = uint8(g.Intn(256))
	}
	p.Body = fmt.Sprint(g.Intn(1000000)) + strings.Repeat("b", oneOf(g, 0, 0, 3, 90))
	return *p
}

func sends(t *testing.T, s *Sender, p api.Packet) string {
	t.Helper()
	f, e := s.Send(p)
	if e != api.OK || len(f) < 2 {
		t.Fatalf("Send(%+v) = %x, %d", p, f, e)
	}
	return f
}

func cidOf(f string) int { return int(f[0]) / 2 % 8 }

// eachConfig goes through configurations: every Keep, every Cids.
func eachConfig(run func(c api.Config, g *rand.Rand)) {
	seed := int64(0)
	for keep := 1; keep <= 4; keep++ {
		for cids := 1; cids <= 8; cids++ {
			for _, refresh := range []int{2, 3, 5, 12, 40, 100} {
				seed++
				run(api.Config{Cids: cids, Keep: keep, Refresh: refresh}, rand.New(rand.NewSource(seed)))
			}
		}
	}
}

func bothEnds(t *testing.T, c api.Config) (*Sender, *Receiver) {
	t.Helper()
	return begun(t, c.Cids, c.Keep, c.Refresh), receiving(t, c.Cids, c.Keep, c.Refresh)
}

// Whatever is lost, as long as of any Keep frames of a context one comes; and
// whatever is heard.
func TestP12(t *testing.T) {
	var kinds [4]int
	lostInAll := 0
	eachConfig(func(c api.Config, g *rand.Rand) {
		for range 4 {
			s, r := bothEnds(t, c)
			l := someFlows(g, c.Cids+g.Intn(3))
			often, talk := oneOf(g, 0, 5, 10), oneOf(g, 0, 1, 4)
			var lost [8]int
			for range 150 {
				if g.Intn(10) < talk {
					s.Hear(string([]byte{"SD"[g.Intn(2)], byte(g.Intn(8))}))
				}
				p := l.next()
				f := sends(t, s, p)
				cid := cidOf(f)
				if g.Intn(10) < often && lost[cid] < c.Keep-1 {
					lost[cid]++
					lostInAll++
					continue
				}
				lost[cid] = 0
				takes(t, r, f, p)
				kinds[f[0]>>6]++
			}
		}
	})
	for kind, count := range kinds {
		if count < 1000 {
			t.Errorf("of kind %d only %d frames came", kind, count)
		}
	}
	if lostInAll < 1000 {
		t.Errorf("only %d frames were lost", lostInAll)
	}
}

// Every pattern of what comes of 12 frames, with less than Keep lost in a row,
// on one context that two flows share in turn.
func TestP12EveryPattern(t *testing.T) {
	const length = 12
	scripts := [][length]int{
		{1, 1, 1, 1, 1, 1, 1, 1, 1, 1, 1, 1},
		{1, 1, 1, 1, 1, 1, 7, 7, 7, 7, 14, 14},
		{1, 1, 1, 1, 1, 1, 14, 1, 13, 1, 12, 2},
		{1, 1, 1, 1, 1, 1, 127, 127, 127, 254, 254, 1},
		{1, 1, 1, 1, 1, 1, -1, 1, -1, -1, 1, 0},
		{1, 1, 1, 1, 1, 1, 253, 1, 252, 2, 251, -1},
	}
	for keep := 1; keep <= 4; keep++ {
		tooMany := strings.Repeat("0", keep)
		for mask := range 1 << length {
			comes := fmt.Sprintf("%012b", mask)
			if strings.Contains(comes, tooMany) {
				continue
			}
			for _, script := range scripts {
				for _, changes := range []int{0, 3, 5, 12} {
					s, r := bothEnds(t, api.Config{Cids: 1, Keep: keep, Refresh: 9})
					n := 65530
					for i, step := range script {
						n += step
						p := ofExample(n)
						if i >= changes {
							p.Port = 1
						}
						if f := sends(t, s, p); comes[i] == '1' {
							takes(t, r, f, p)
						}
					}
				}
			}
		}
	}
}

func checkOfHeader(t *testing.T, kind byte, p api.Packet) uint8 {
	t.Helper()
	text, e := Write(p)
	if e != api.OK {
		t.Fatalf("Write(%+v): %d", p, e)
	}
	sum, _ := Crc([]int{3, 7, 8, 8}[kind], text[:19])
	return sum
}

// Lost, doubled and mixed up: what comes out has the body of its packet, and
// its header or one with the same check.
func TestP13(t *testing.T) {
	right, other, refused := 0, 0, 0
	eachConfig(func(c api.Config, g *rand.Rand) {
		for range 4 {
			s, r := bothEnds(t, c)
			l := someFlows(g, c.Cids+g.Intn(3))
			var frames []string
			var packets []api.Packet
			far := oneOf(g, 2, 5, 300)
			for range 120 {
				p := l.next()
				frames, packets = append(frames, sends(t, s, p)), append(packets, p)
				for range g.Intn(4) {
					n := max(0, len(frames)-1-g.Intn(far))
					q, back, e := r.Take(frames[n])
					kind := frames[n][0] >> 6
					if kind == api.Whole && (q != packets[n] || e != api.OK) {
						t.Fatalf("Take(%x) = %+v, %d, sent %+v", frames[n], q, e, packets[n])
					}
					if e != api.OK {
						refused++
						s.Hear(back)
						continue
					}
					if q.Body != packets[n].Body || checkOfHeader(t, kind, q) != checkOfHeader(t, kind, packets[n]) {
						t.Fatalf("Take(%x) = %+v, sent %+v", frames[n], q, packets[n])
					}
					if q == packets[n] {
						right++
					} else {
						other++
					}
				}
			}
		}
	})
	if right < 10000 || other < 500 || refused < 5000 {
		t.Errorf("%d came out as they were, %d with another header, %d were refused", right, other, refused)
	}
}

// spoil is a text that no sender may have made.
func spoil(g *rand.Rand, f string) string {
	b := []byte(f)
	switch g.Intn(4) {
	case 0:
		b[g.Intn(len(b))] ^= 1 << g.Intn(8)
	case 1:
		b[0] ^= byte(g.Intn(4)) << 4
	case 2:
		b = b[:g.Intn(len(b))]
	case 3:
		b = make([]byte, g.Intn(40))
		g.Read(b)
	}
	return string(b)
}

// Whatever was taken before, a flow is healed from its first whole frame on;
// and one of any Refresh frames of a context is whole.
func TestP14(t *testing.T) {
	behind, ahead := 0, 0
	eachConfig(func(c api.Config, g *rand.Rand) {
		for range 3 {
			s, r := bothEnds(t, c)
			l := someFlows(g, c.Cids+g.Intn(3))
			var since [8]int
			next := func() (string, api.Packet) {
				p := l.next()
				f := sends(t, s, p)
				since[cidOf(f)]++
				if f[0]>>6 == api.Whole {
					since[cidOf(f)] = 0
				}
				if since[cidOf(f)] >= c.Refresh {
					t.Fatalf("%+v: %d frames in a row are not whole", c, since[cidOf(f)])
				}
				return f, p
			}
			var old []string
			for range g.Intn(150) {
				f, _ := next()
				old = append(old, f)
				f = old[g.Intn(len(old))]
				if g.Intn(2) == 0 {
					f = spoil(g, f)
				}
				if g.Intn(3) != 0 {
					_, back, _ := r.Take(f)
					s.Hear(back)
				}
			}
			hears := g.Intn(2) == 0
			var healed [8]bool
			for range 200 {
				f, p := next()
				cid := cidOf(f)
				healed[cid] = healed[cid] || f[0]>>6 == api.Whole
				q, back, e := r.Take(f)
				if healed[cid] && (q != p || back != "" || e != api.OK) {
					t.Fatalf("%+v: Take(%x) = %+v, %q, %d, sent %+v", c, f, q, back, e, p)
				}
				if hears {
					s.Hear(back)
				}
				if healed[cid] {
					behind++
				} else {
					ahead++
				}
			}
		}
	})
	if behind < 10000 || ahead < 1000 {
		t.Errorf("%d packets behind a first whole frame, %d ahead of it", behind, ahead)
	}
}

// Every Refresh: of any so many frames one is whole, and each flow is healed
// by then.
func TestP14EveryRefresh(t *testing.T) {
	for refresh := 2; refresh <= 100; refresh++ {
		for keep := 1; keep <= 4; keep++ {
			s, r := begun(t, 1, keep, refresh), receiving(t, 1, keep, refresh)
			late := keep + refresh/2
			whole := 0
			for n := 1; n <= 5*refresh+keep; n++ {
				f := sends(t, s, ofExample(n))
				if f[0]>>6 == api.Whole {
					whole = n
				}
				if n-whole >= refresh {
					t.Fatalf("Keep %d, Refresh %d: packets %d to %d are not whole", keep, refresh, whole+1, n)
				}
				if n > late && whole <= late {
					if p, _, e := r.Take(f); e != api.ErrContext || p != (api.Packet{}) {
						t.Fatalf("Keep %d, Refresh %d: packet %d is %+v, %d", keep, refresh, n, p, e)
					}
				} else if n > late {
					takes(t, r, f, ofExample(n))
				}
			}
			if whole == 0 || whole <= late {
				t.Errorf("Keep %d, Refresh %d: the last whole one is %d", keep, refresh, whole)
			}
		}
	}
}

// A receiver that comes late asks for whole frames, one that has lost the
// thread for full ones.
func TestFeedbackHeals(t *testing.T) {
	s, r := begun(t, 1, 1, 100), receiving(t, 1, 1, 100)
	for n := 1; n <= 5; n++ {
		sends(t, s, ofExample(n))
	}
	misses(t, r, sends(t, s, ofExample(6)), "S\x00", api.ErrContext)
	s.Hear("S\x00")
	for n := 7; n <= 9; n++ {
		takes(t, r, sends(t, s, ofExample(n)), ofExample(n))
	}
	for n := 10; n <= 29; n++ {
		sends(t, s, ofExample(n))
	}
	misses(t, r, sends(t, s, ofExample(30)), "", api.ErrCheck)
	misses(t, r, sends(t, s, ofExample(31)), "D\x00", api.ErrCheck)
	s.Hear("D\x00")
	f := sends(t, s, ofExample(32))
	if f[0]>>6 != api.Full {
		t.Errorf("behind D: %x", f)
	}
	takes(t, r, f, ofExample(32))
	f = sends(t, s, ofExample(33))
	if len(f) != 2 {
		t.Errorf("behind a full one: %x", f)
	}
	takes(t, r, f, ofExample(33))
}

// regularRun follows the counts and AGE of a flow whose packets go on
// regularly: from number Keep + 2 on only they ask for other frames than TINY.
type regularRun struct {
	config           api.Config
	whole, full, age int
}

func (c *regularRun) asked() byte {
	if c.whole > 0 || c.age >= c.config.Refresh-1 {
		c.whole, c.age = max(0, c.whole-1), 0
		return api.Whole
	}
	c.age++
	if c.full > 0 {
		c.full--
		return api.Full
	}
	return api.Tiny
}

func TestP15(t *testing.T) {
	tiny := 0
	eachConfig(func(c api.Config, g *rand.Rand) {
		for _, step := range []uint32{0, 1, 160, 65535} {
			s, r := bothEnds(t, c)
			run := regularRun{config: c, whole: c.Keep}
			length := 260
			p := api.Packet{Route: api.Route{Src: 3}, Seq: uint16(oneOf(g, 0, 500, 65536-length)), Id: uint16(oneOf(g, 0, 65500)), Time: uint32(oneOf(g, 0, 1<<32-3000)), Flags: 9, Body: "body"}
			others := someFlows(g, 8)
			talk := oneOf(g, 0, 3)
			for n := 1; n <= length; n++ {
				if n > 1 && c.Cids > 1 && g.Intn(2) == 0 {
					// Another flow in between, on another context than 0.
					sends(t, s, others.next())
				}
				if n > 1 && g.Intn(100) < talk {
					s.Hear("S\x00")
					run.whole = c.Keep
				}
				if n > 1 && g.Intn(100) < talk {
					s.Hear("D\x00")
					run.full = c.Keep
				}
				f := sends(t, s, p)
				want := run.asked()
				if n >= c.Keep+2 && (f[0]>>6 != want || want == api.Tiny && f[2:] != "body") {
					t.Fatalf("%+v, Time more by %d: packet %d is %x, want kind %d", c, step, n, f, want)
				}
				if want == api.Tiny && len(f) == 6 {
					tiny++
				}
				takes(t, r, f, p)
				p.Seq, p.Id, p.Time = p.Seq+1, p.Id+1, p.Time+step
			}
		}
	})
	if tiny < 50000 {
		t.Errorf("only %d frames are tiny", tiny)
	}
}

// A flow that was irregular before: the numbers begin with the first packet of
// the run.
func TestP15BehindAnIrregularFlow(t *testing.T) {
	for keep := 1; keep <= 4; keep++ {
		for seed := range int64(100) {
			s, r := begun(t, 1, keep, 100), receiving(t, 1, keep, 100)
			g := rand.New(rand.NewSource(seed))
			l := someFlows(g, 1)
			for range 20 {
				p := l.next()
				takes(t, r, sends(t, s, p), p)
			}
			p := l.last[0]
			p.Body = ""
			p.Seq, p.Id, p.Time = uint16(g.Intn(65000)), uint16(g.Intn(65536)), g.Uint32()
			step := uint32(g.Intn(65536))
			for n := 1; n <= 40; n++ {
				f := sends(t, s, p)
				if n >= keep+2 && len(f) != 2 {
					t.Fatalf("Keep %d, seed %d: packet %d is %x", keep, seed, n, f)
				}
				takes(t, r, f, p)
				p.Seq, p.Id, p.Time = p.Seq+1, p.Id+1, p.Time+step
			}
		}
	}
}

// Every Seq from 0 to 65535.
func TestP15EverySeq(t *testing.T) {
	for _, step := range []uint32{1, 65535} {
		s, r := begun(t, 1, 4, 100), receiving(t, 1, 4, 100)
		p := api.Packet{Id: 40000, Time: 1 << 31}
		run := regularRun{config: api.Config{Keep: 4, Refresh: 100}, whole: 4}
		for n := range 65536 {
			p.Seq = uint16(n)
			f := sends(t, s, p)
			if want := run.asked(); n >= 5 && (f[0]>>6 != want || want == api.Tiny && len(f) != 2) {
				t.Fatalf("Time more by %d: Seq %d is %x", step, n, f)
			}
			takes(t, r, f, p)
			p.Id++
			p.Time += step
		}
	}
}
