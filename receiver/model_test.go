package receiver

import (
	"math/rand"
	"slices"
	"strings"
	"testing"

	"gist/api"
	"gist/sender"
)

// model is a receiver made a second time, slowly: it keeps all that was
// believed, and finds numbers by trying each that the bits can tell.
type model struct {
	config   api.Config
	believed [8][]believed
	missed   [8]int
}

type believed struct {
	packet api.Packet
	turn   int
	stride int64
}

func modulo(n int64, bits int) int64 {
	return ((n % (1 << bits)) + (1 << bits)) % (1 << bits)
}

// checkByDivision takes a text as one long polynomial, whose first
// coefficients are turned over, and divides it.
func checkByDivision(width int, text string) int64 {
	divisor := map[int]string{3: "1011", 7: "11001111", 8: "100000111"}[width]
	var bits []byte
	for n := range 8 * len(text) {
		bits = append(bits, text[n/8]>>(n%8)&1)
	}
	bits = append(bits, make([]byte, width)...)
	for i := range width {
		bits[i] ^= 1
	}
	for i := range bits[width:] {
		if bits[i] == 1 {
			for j := range divisor {
				bits[i+j] ^= divisor[j] - '0'
			}
		}
	}
	sum := int64(0)
	for i, bit := range bits[len(bits)-width:] {
		sum += int64(bit) << i
	}
	return sum
}

func number(text string) int64 {
	n := int64(0)
	for _, b := range []byte(text) {
		n = 256*n + int64(b)
	}
	return n
}

func bytesOf(n int64, count int) string {
	if count == 0 {
		return ""
	}
	return bytesOf(n/256, count-1) + string([]byte{byte(n % 256)})
}

func headerOf(p api.Packet) string {
	return bytesOf(int64(p.Src), 4) + bytesOf(int64(p.Dst), 4) + bytesOf(int64(p.Port), 2) + bytesOf(int64(p.Seq), 2) + bytesOf(int64(p.Time), 4) + bytesOf(int64(p.Id), 2) + bytesOf(int64(p.Flags), 1)
}

// told is the number that k lowest bits tell.
func told(ref, shift int64, k int, bits int64, width int) int64 {
	for i := range int64(1) << k {
		if n := modulo(ref-shift+i, width); n%(1<<k) == bits {
			return n
		}
	}
	return -1
}

func packetOf(fields string) api.Packet {
	return api.Packet{Seq: uint16(number(fields[0:2])), Time: uint32(number(fields[2:6])), Id: uint16(number(fields[6:8])), Flags: fields[8]}
}

// next is what a frame tells behind what was believed last.
func next(kind int, text string, last believed) believed {
	b := last
	seq := int64(last.packet.Seq)
	offset := modulo(int64(last.packet.Id)-seq, 16)
	lag := modulo(int64(last.packet.Time)-last.stride*seq, 32)
	switch kind {
	case api.Whole:
		b.packet = packetOf(text[11:20])
		b.packet.Route = api.Route{Src: uint32(number(text[1:5])), Dst: uint32(number(text[5:9])), Port: uint16(number(text[9:11]))}
		b.stride = number(text[20:22])
		return b
	case api.Full:
		b.packet = packetOf(text[1:10])
		b.packet.Route = last.packet.Route
		b.stride = number(text[10:12])
		return b
	case api.Short:
		seq = told(seq, 1, 8, number(text[1:2]), 16)
		offset = told(offset, 128, 8, number(text[2:3]), 16)
		lag = told(lag, 128, 8, number(text[3:4]), 32)
	case api.Tiny:
		seq = told(seq, 1, 4, number(text[1:2])/16, 16)
	}
	b.packet.Seq = uint16(seq)
	b.packet.Id = uint16(modulo(offset+seq, 16))
	b.packet.Time = uint32(modulo(lag+b.stride*seq, 32))
	return b
}

func (m *model) take(text string) (api.Packet, string, api.Errno) {
	var none api.Packet
	if len(text) == 0 {
		return none, "", api.ErrFrame
	}
	kind, turn, cid := int(text[0])/64, int(text[0])/16%4, int(text[0])/2%8
	size := sizeOf(kind)
	if text[0]%2 == 1 || cid >= m.config.Cids || len(text) < size || len(text) > size+100 {
		return none, "", api.ErrFrame
	}
	sum := int64(text[size-1])
	if kind == api.Tiny && sum%2 == 1 || kind == api.Short && sum >= 128 {
		return none, "", api.ErrFrame
	}
	if kind == api.Tiny {
		sum = sum / 2 % 8
	}
	var last believed
	l := m.believed[cid]
	e := api.OK
	switch {
	case kind == api.Whole:
	case l == nil:
		e = api.ErrContext
	case l[len(l)-1].turn != turn:
		e = api.ErrTurn
	}
	if l != nil {
		last = l[len(l)-1]
	}
	b := next(kind, text, last)
	b.turn = turn
	b.packet.Body = text[size:]
	if e == api.OK && sum != checkByDivision([]int{3, 7, 8, 8}[kind], headerOf(b.packet)) {
		e = api.ErrCheck
	}
	if e == api.OK {
		m.believed[cid] = append(l, b)
		m.missed[cid] = 0
		return b.packet, "", e
	}
	if kind == api.Whole {
		return none, "", e
	}
	m.missed[cid]++
	return none, asksFor(e, m.missed[cid]%256, cid), e
}

func sizeOf(kind int) int {
	return []int{2, 5, 13, 23}[kind]
}

func (m *model) flows() []api.Flow {
	var l []api.Flow
	for cid, b := range m.believed {
		if b != nil {
			last := b[len(b)-1]
			l = append(l, api.Flow{Cid: uint8(cid), Turn: uint8(last.turn), Route: last.packet.Route, Seq: last.packet.Seq, Count: m.missed[cid] % 256})
		}
	}
	return l
}

func oneOf(g *rand.Rand, l ...int) int {
	return l[g.Intn(len(l))]
}

// goOn changes a packet into the next one of its flow.
func goOn(g *rand.Rand, p *api.Packet) {
	step := 1
	if g.Intn(5) == 0 {
		step = oneOf(g, 0, -1, -2, 2, 5, 13, 14, 15, 16, 250, 254, 255, 256, g.Intn(65536))
	}
	p.Seq += uint16(step)
	p.Id += uint16(step)
	p.Time += uint32(160 * step)
	switch g.Intn(14) {
	case 0:
		p.Id += uint16(oneOf(g, 1, -1, 127, 128, -128, -129, g.Intn(65536)))
	case 1:
		p.Time += uint32(oneOf(g, 1, -1, 127, 128, -128, -129, g.Intn(1<<32)))
	case 2:
		p.Flags = uint8(g.Intn(256))
	}
	p.Body = strings.Repeat("b", oneOf(g, 0, 0, 1, 7, 100))
}

// spoil changes a text: bits, bytes, its length, its turn.
func spoil(g *rand.Rand, f string) string {
	switch g.Intn(8) {
	case 0:
		return turned(f, g.Intn(8*len(f)))
	case 1:
		return f[:g.Intn(len(f)+1)]
	case 2:
		return f + strings.Repeat("x", oneOf(g, 1, 50, 100, 101))
	case 3:
		return string([]byte{f[0] ^ byte(oneOf(g, 16, 32, 48))}) + f[1:]
	case 4:
		return string([]byte{byte(g.Intn(256))}) + f[1:]
	case 5:
		b := make([]byte, g.Intn(30))
		g.Read(b)
		return string(b)
	case 6:
		b := []byte(f)
		b[g.Intn(min(len(b), sizeOf(int(f[0]>>6))))] = byte(g.Intn(256))
		return string(b)
	}
	return spoilt(f)
}

type tally struct {
	errors [11]int
	kinds  [4]int
	backs  map[string]int
}

// runBoth lets a receiver and the model take the frames of a sender as a bad
// line brings them.
func runBoth(t *testing.T, seed int64, c api.Config, count *tally) {
	g := rand.New(rand.NewSource(seed))
	s, _ := sender.New(c)
	r, e := New(c)
	if e != api.OK {
		t.Fatalf("New(%+v): %d", c, e)
	}
	m := &model{config: c}
	lost, mixed, bad := oneOf(g, 0, 1, 5), oneOf(g, 0, 0, 1, 4), oneOf(g, 0, 0, 1, 5)
	last := make([]api.Packet, c.Cids+g.Intn(3))
	for port := range last {
		last[port] = api.Packet{Route: api.Route{Src: uint32(oneOf(g, 0, 1, 1<<32-1)), Port: uint16(port)}, Seq: uint16(oneOf(g, 0, 65500, g.Intn(65536))), Id: uint16(g.Intn(65536)), Time: uint32(oneOf(g, 0, 1<<32-900, g.Intn(1<<32)))}
	}
	var sent []string
	port := 0
	for range 250 {
		if g.Intn(4) == 0 {
			port = g.Intn(len(last))
		}
		goOn(g, &last[port])
		f, _ := s.Send(last[port])
		sent = append(sent, f)
		if g.Intn(10) < lost {
			continue
		}
		if g.Intn(10) < mixed {
			f = sent[max(0, len(sent)-1-g.Intn(20))]
		}
		if g.Intn(10) < bad {
			f = spoil(g, f)
		}
		p, back, e := r.Take(f)
		q, want, i := m.take(f)
		if p != q || back != want || e != i {
			t.Fatalf("seed %d, %+v: Take(%x) = %+v, %q, %d, want %+v, %q, %d", seed, c, f, p, back, e, q, want, i)
		}
		if l := r.Flows(); !slices.Equal(l, m.flows()) {
			t.Fatalf("seed %d, %+v: Flows() = %+v, want %+v", seed, c, l, m.flows())
		}
		if e == api.OK {
			count.kinds[f[0]>>6]++
		}
		count.errors[e]++
		if back != "" {
			count.backs[back[:1]]++
		}
		if g.Intn(3) == 0 {
			s.Hear(back)
		}
	}
}

func TestAgainstTheModel(t *testing.T) {
	count := tally{backs: map[string]int{}}
	seed := int64(0)
	for cids := 1; cids <= 8; cids++ {
		for keep := 1; keep <= 4; keep++ {
			for _, refresh := range []int{2, 3, 10, 40, 99, 100} {
				seed++
				runBoth(t, seed, api.Config{Cids: cids, Keep: keep, Refresh: refresh}, &count)
			}
		}
	}
	for kind, n := range count.kinds {
		if n < 500 {
			t.Errorf("of kind %d only %d frames are believed", kind, n)
		}
	}
	for _, e := range []api.Errno{api.ErrFrame, api.ErrContext, api.ErrTurn, api.ErrCheck} {
		if count.errors[e] < 300 {
			t.Errorf("error %d only %d times", e, count.errors[e])
		}
	}
	if count.backs["S"] < 100 || count.backs["D"] < 100 {
		t.Errorf("feedback: %v", count.backs)
	}
}
