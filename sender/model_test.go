package sender

import (
	"bytes"
	"math/rand"
	"slices"
	"strings"
	"testing"

	"gist/api"
)

// model is a sender made a second time, slowly: it keeps every packet that was
// sent and finds out all else anew each time.
type model struct {
	config  api.Config
	packets []sentPacket
	heard   []int // of each context, packets that must still be whole
	dropped []int // and full
}

type sentPacket struct {
	api.Packet
	cid, turn, kind int
	stride          int64
	first           bool // of its flow
}

func newModel(c api.Config) *model {
	return &model{config: c, heard: make([]int, c.Cids), dropped: make([]int, c.Cids)}
}

// flow is the packets of the flow that a context has now.
func (m *model) flow(cid int) []sentPacket {
	var l []sentPacket
	for _, p := range m.packets {
		if p.cid == cid && p.first {
			l = nil
		}
		if p.cid == cid {
			l = append(l, p)
		}
	}
	return l
}

func modulo(n int64, bits int) int64 {
	return ((n % (1 << bits)) + (1 << bits)) % (1 << bits)
}

func (p sentPacket) offset() int64 { return modulo(int64(p.Id)-int64(p.Seq), 16) }
func (p sentPacket) lag() int64    { return modulo(int64(p.Time)-p.stride*int64(p.Seq), 32) }

func tells(v, ref int64, k int, shift int64, width int) bool {
	for i := range int64(1) << k {
		if modulo(ref-shift+i, width) == v {
			return true
		}
	}
	return false
}

func (m *model) place(route api.Route) (cid int, begins bool) {
	lastOf := make([]int, m.config.Cids)
	for cid := range m.config.Cids {
		lastOf[cid] = -1
		if l := m.flow(cid); l != nil && l[0].Route == route {
			return cid, false
		}
	}
	for i, p := range m.packets {
		lastOf[p.cid] = i
	}
	return slices.Index(lastOf, slices.Min(lastOf)), true
}

func (m *model) send(p api.Packet) (string, api.Errno) {
	if len(p.Body) > 100 {
		return "", api.ErrLong
	}
	cid, begins := m.place(p.Route)
	next := sentPacket{Packet: p, cid: cid, first: begins}
	flow := m.flow(cid)
	if begins {
		if flow != nil {
			next.turn = (flow[0].turn + 1) % 4
		}
		flow = nil
		m.heard[cid], m.dropped[cid] = m.config.Keep, 0
	} else {
		last := flow[len(flow)-1]
		next.turn, next.stride = last.turn, last.stride
		if modulo(int64(p.Seq)-int64(last.Seq), 16) == 1 {
			next.stride = modulo(int64(p.Time)-int64(last.Time), 16)
		}
	}
	next.kind = m.kind(next, flow)
	m.packets = append(m.packets, next)
	return next.frame(), api.OK
}

func (m *model) kind(p sentPacket, flow []sentPacket) int {
	age := 0
	for i := len(flow) - 1; i >= 0 && flow[i].kind != 3; i-- {
		age++
	}
	if m.heard[p.cid] > 0 {
		m.heard[p.cid]--
		return 3
	}
	if age >= m.config.Refresh-1 {
		return 3
	}
	if m.dropped[p.cid] > 0 {
		m.dropped[p.cid]--
		return 2
	}
	tiny, short := true, true
	for _, k := range flow[max(0, len(flow)-m.config.Keep):] {
		same := k.stride == p.stride && k.Flags == p.Flags
		tiny = tiny && same && k.offset() == p.offset() && k.lag() == p.lag() && tells(int64(p.Seq), int64(k.Seq), 4, 1, 16)
		short = short && same && tells(int64(p.Seq), int64(k.Seq), 8, 1, 16) && tells(p.offset(), k.offset(), 8, 128, 16) && tells(p.lag(), k.lag(), 8, 128, 32)
	}
	if tiny {
		return 0
	}
	if short {
		return 1
	}
	return 2
}

// slowCheck takes the text bit by bit, and the check as a list of its bits.
func slowCheck(width int, text []byte) int64 {
	mix := map[int]string{3: "011", 7: "1001111", 8: "00000111"}[width] // lowest first
	check := bytes.Repeat([]byte{1}, width)
	for n := range 8 * len(text) {
		lowest := check[0] ^ text[n/8]>>(n%8)&1
		check = append(check[1:], 0)
		for i := range check {
			check[i] ^= lowest & (mix[i] - '0')
		}
	}
	sum := int64(0)
	for i, bit := range check {
		sum += int64(bit) << i
	}
	return sum
}

func bytesOf(n int64, count int) []byte {
	var l []byte
	for i := count - 1; i >= 0; i-- {
		l = append(l, byte(n>>(8*i)))
	}
	return l
}

func (p sentPacket) frame() string {
	fields := slices.Concat(bytesOf(int64(p.Seq), 2), bytesOf(int64(p.Time), 4), bytesOf(int64(p.Id), 2), []byte{p.Flags})
	header := slices.Concat(bytesOf(int64(p.Src), 4), bytesOf(int64(p.Dst), 4), bytesOf(int64(p.Port), 2), fields)
	f := []byte{byte(64*p.kind + 16*p.turn + 2*p.cid)}
	switch p.kind {
	case 3:
		f = slices.Concat(f, header, bytesOf(p.stride, 2), bytesOf(slowCheck(8, header), 1))
	case 2:
		f = slices.Concat(f, fields, bytesOf(p.stride, 2), bytesOf(slowCheck(8, header), 1))
	case 1:
		f = append(f, byte(p.Seq%256), byte(p.offset()%256), byte(p.lag()%256), byte(slowCheck(7, header)))
	case 0:
		f = append(f, byte(int64(p.Seq%16)*16+slowCheck(3, header)*2))
	}
	return string(f) + p.Body
}

func (m *model) hear(x string) api.Errno {
	if len(x) != 2 || (x[0] != 'S' && x[0] != 'D') || int(x[1]) >= m.config.Cids || m.flow(int(x[1])) == nil {
		return api.ErrFeedback
	}
	if x[0] == 'S' {
		m.heard[x[1]] = m.config.Keep
	} else {
		m.dropped[x[1]] = m.config.Keep
	}
	return api.OK
}

func (m *model) flows() []api.Flow {
	var l []api.Flow
	for cid := range m.config.Cids {
		if f := m.flow(cid); f != nil {
			last := f[len(f)-1]
			l = append(l, api.Flow{Cid: uint8(cid), Turn: uint8(last.turn), Route: last.Route, Seq: last.Seq, Count: len(f)})
		}
	}
	return l
}

func oneOf(r *rand.Rand, l ...int64) int64 {
	return l[r.Intn(len(l))]
}

// nextPacket goes on from the last packet of a flow: mostly regularly, else by
// what is just told and just not told.
func nextPacket(r *rand.Rand, last api.Packet, stride, calm int64) api.Packet {
	step, byId, byTime := int64(1), int64(0), int64(0)
	if r.Int63n(calm) == 0 {
		step = oneOf(r, 0, 1, 2, 3, -1, -2, 11, 12, 13, 14, 15, 16, 17, 250, 251, 252, 253, 254, 255, 256, 257, 32768, r.Int63n(65536))
	}
	if r.Int63n(calm) == 0 {
		byId = oneOf(r, 1, -1, 60, -60, 126, 127, 128, 129, -127, -128, -129, r.Int63n(65536))
	}
	if r.Int63n(calm) == 0 {
		byTime = oneOf(r, 1, -1, 60, -60, 126, 127, 128, 129, -127, -128, -129, 65536, -65536, r.Int63n(1<<32))
	}
	p := last
	p.Seq += uint16(step)
	p.Id += uint16(step + byId)
	p.Time += uint32(stride * step)
	if r.Int63n(2*calm) == 0 {
		p.Time = last.Time + uint32(stride*(int64(p.Seq)-int64(last.Seq))) // the LAG stays where Seq goes past 65535
	}
	p.Time += uint32(byTime)
	if r.Int63n(3*calm) == 0 {
		p.Flags = uint8(r.Intn(256))
	}
	p.Body = strings.Repeat("b", int(oneOf(r, 0, 0, 0, 1, 7, 99, 100)))
	return p
}

func firstPacket(r *rand.Rand, port int) api.Packet {
	route := api.Route{Src: uint32(oneOf(r, 0, 1, 1<<32-1)), Dst: uint32(oneOf(r, 0, 1, 1<<32-1)), Port: uint16(port)}
	return api.Packet{Route: route, Seq: uint16(oneOf(r, 0, 1, 65500, 65535, r.Int63n(65536))), Time: uint32(oneOf(r, 0, 100, 1<<32-100, r.Int63n(1<<32))), Id: uint16(oneOf(r, 0, 5, 65530, r.Int63n(65536)))}
}

// runBoth sends and hears some hundred times, and tells how often each kind came.
func runBoth(t *testing.T, seed int64, c api.Config) (kinds [4]int) {
	r := rand.New(rand.NewSource(seed))
	m := newModel(c)
	s, e := New(c)
	if e != api.OK {
		t.Fatalf("New(%+v): %d", c, e)
	}
	calm := oneOf(r, 2, 5, 12, 40)
	var last []api.Packet
	var strides []int64
	for port := range c.Cids + int(oneOf(r, 0, 0, 1, 2)) {
		last = append(last, firstPacket(r, port))
		strides = append(strides, oneOf(r, 0, 1, 10, 256, 3000, 65535))
	}
	at := 0
	for range 300 {
		if r.Int63n(oneOf(r, 2, 20)) == 0 {
			at = r.Intn(len(last))
		}
		if r.Intn(20) == 0 {
			x := string([]byte{byte(oneOf(r, 'S', 'D', 'S', 'D', 's', 0)), byte(oneOf(r, 0, 1, int64(c.Cids)-1, int64(c.Cids), r.Int63n(256)))}) + strings.Repeat("S", int(oneOf(r, 0, 0, 0, 0, 1)))
			if got, want := s.Hear(x), m.hear(x); got != want {
				t.Fatalf("seed %d: Hear(%q) = %d, want %d", seed, x, got, want)
			}
		}
		p := nextPacket(r, last[at], strides[at], calm)
		if r.Intn(30) == 0 {
			p.Body = strings.Repeat("b", 101)
		}
		got, e := s.Send(p)
		want, f := m.send(p)
		if got != want || e != f {
			t.Fatalf("seed %d, %+v: Send(%+v) = %x, %d, want %x, %d", seed, c, p, got, e, want, f)
		}
		if l := s.Flows(); !slices.Equal(l, m.flows()) {
			t.Fatalf("seed %d, %+v: Flows() = %+v, want %+v", seed, c, l, m.flows())
		}
		if e == api.OK {
			kinds[got[0]>>6]++
			last[at] = p
		}
	}
	return kinds
}

func TestAgainstTheModel(t *testing.T) {
	var kinds [4]int
	seed := int64(0)
	for cids := 1; cids <= 8; cids++ {
		for keep := 1; keep <= 4; keep++ {
			for _, refresh := range []int{2, 3, 4, 10, 99, 100} {
				seed++
				for kind, count := range runBoth(t, seed, api.Config{Cids: cids, Keep: keep, Refresh: refresh}) {
					kinds[kind] += count
				}
			}
		}
	}
	for kind, count := range kinds {
		if count < 1000 {
			t.Errorf("of kind %d only %d frames", kind, count)
		}
	}
	t.Log(kinds)
}
