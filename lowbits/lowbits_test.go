package lowbits

import (
	"math"
	"math/rand"
	"testing"

	"gist/api"
)

var refs = []uint32{
	0, 1, 2, 7, 10, 127, 128, 129, 255, 256, 32767, 32768, 65407, 65408, 65534, 65535,
	65536, 65537, 1<<31 - 1, 1 << 31, 4294967167, 4294967168, 4294967294, 4294967295,
}

var wrongCounts = []int{math.MinInt, math.MinInt + 4, -1 << 32, -16, -1, 33, 34, 63, 64, 65, 256, 1 << 16, 1 << 32, 1<<32 + 4, math.MaxInt}

// someBelow names shifts (or bits) at the edges of 2^k and some between.
func someBelow(r *rand.Rand, k int) []uint32 {
	top := uint64(1)<<k - 1
	list := []uint32{0, uint32(top), uint32(top / 2)}
	if k > 0 {
		list = append(list, 1, uint32(top/2+1), uint32(r.Uint64()&top))
	}
	return list
}

func wantLow16(t *testing.T, ref uint16, k int, p, bits uint16, want uint16, err api.Errno) {
	t.Helper()
	if v, e := Low16(ref, k, p, bits); v != want || e != err {
		t.Errorf("Low16(%d, %d, %d, %d) = %d, %d, want %d, %d", ref, k, p, bits, v, e, want, err)
	}
}

func wantLow32(t *testing.T, ref uint32, k int, p, bits uint32, want uint32, err api.Errno) {
	t.Helper()
	if v, e := Low32(ref, k, p, bits); v != want || e != err {
		t.Errorf("Low32(%d, %d, %d, %d) = %d, %d, want %d, %d", ref, k, p, bits, v, e, want, err)
	}
}

func wantFits16(t *testing.T, v, ref uint16, k int, p uint16, want bool, err api.Errno) {
	t.Helper()
	if is, e := Fits16(v, ref, k, p); is != want || e != err {
		t.Errorf("Fits16(%d, %d, %d, %d) = %v, %d, want %v, %d", v, ref, k, p, is, e, want, err)
	}
}

func wantFits32(t *testing.T, v, ref uint32, k int, p uint32, want bool, err api.Errno) {
	t.Helper()
	if is, e := Fits32(v, ref, k, p); is != want || e != err {
		t.Errorf("Fits32(%d, %d, %d, %d) = %v, %d, want %v, %d", v, ref, k, p, is, e, want, err)
	}
}

func TestP4Examples(t *testing.T) {
	wantLow16(t, 10, 4, 1, 9, 9, api.OK)
	wantLow16(t, 10, 4, 1, 8, 24, api.OK)
	wantLow16(t, 65535, 4, 1, 2, 2, api.OK)
	wantLow16(t, 7, 0, 0, 0, 7, api.OK)
	wantLow16(t, 7, 16, 65535, 9, 9, api.OK)
	wantLow32(t, 5, 8, 128, 255, 4294967295, api.OK)
	wantFits16(t, 9, 10, 4, 1, true, api.OK)
	wantFits16(t, 24, 10, 4, 1, true, api.OK)
	wantFits16(t, 8, 10, 4, 1, false, api.OK)
	wantFits16(t, 25, 10, 4, 1, false, api.OK)
}

// Each of the 2^k numbers from ref - p on is told by its lowest k bits, and
// fits; the ones ahead of the first and behind the last do not.
func TestP4EachNumberOf16Bits(t *testing.T) {
	r := rand.New(rand.NewSource(7))
	for k := 0; k <= 16; k++ {
		for _, wide := range refs {
			ref := uint16(wide)
			for _, p := range someBelow(r, k) {
				v := ref - uint16(p)
				wantFits16(t, v-1, ref, k, uint16(p), k == 16, api.OK)
				for range min(1<<k, 1000) {
					bits := uint16(uint32(v) % (1 << k))
					wantLow16(t, ref, k, uint16(p), bits, v, api.OK)
					wantFits16(t, v, ref, k, uint16(p), true, api.OK)
					v++
				}
				behind := ref - uint16(p) + uint16(1<<k-1) + 1
				wantFits16(t, behind, ref, k, uint16(p), k == 16, api.OK)
				wantFits16(t, behind-1, ref, k, uint16(p), true, api.OK)
			}
		}
	}
}

func TestP4EachNumberOf32Bits(t *testing.T) {
	r := rand.New(rand.NewSource(8))
	for k := 0; k <= 32; k++ {
		for _, ref := range refs {
			for _, p := range someBelow(r, k) {
				v := ref - p
				wantFits32(t, v-1, ref, k, p, k == 32, api.OK)
				for range min(1<<k, 500) {
					bits := uint32(uint64(v) % (1 << k))
					wantLow32(t, ref, k, p, bits, v, api.OK)
					wantFits32(t, v, ref, k, p, true, api.OK)
					v++
				}
				behind := ref - p + uint32(1<<k-1) + 1
				wantFits32(t, behind, ref, k, p, k == 32, api.OK)
				wantFits32(t, behind-1, ref, k, p, true, api.OK)
			}
		}
	}
}

// What any bits tell has them as its lowest bits, and fits: so it is the one.
func TestP4AnyBits(t *testing.T) {
	r := rand.New(rand.NewSource(9))
	for range 20000 {
		k := r.Intn(33)
		below := uint64(1)<<k - 1
		ref, p, bits := r.Uint32(), uint32(r.Uint64()&below), uint32(r.Uint64()&below)
		v, e := Low32(ref, k, p, bits)
		if e != api.OK || uint64(v)&below != uint64(bits) || uint64(v-(ref-p)) > below {
			t.Fatalf("Low32(%d, %d, %d, %d) = %d, %d", ref, k, p, bits, v, e)
		}
		other := r.Uint32()
		wantFits32(t, other, ref, k, p, uint64(other-(ref-p)) <= below, api.OK)
		if k > 16 {
			continue
		}
		ref16, p16, bits16 := uint16(ref), uint16(p), uint16(bits)
		w, e := Low16(ref16, k, p16, bits16)
		if e != api.OK || uint64(w)&below != uint64(bits16) || uint64(w-(ref16-p16)) > below {
			t.Fatalf("Low16(%d, %d, %d, %d) = %d, %d", ref16, k, p16, bits16, w, e)
		}
		other16 := uint16(other)
		wantFits16(t, other16, ref16, k, p16, uint64(other16-(ref16-p16)) <= below, api.OK)
	}
}

func TestP4AllOfOneReference(t *testing.T) {
	for v := range 65536 {
		n := uint16(v)
		wantFits16(t, n, 3, 4, 5, v == 65534 || v == 65535 || v < 14, api.OK)
		wantFits16(t, n, 65533, 3, 2, v >= 65531 || v < 3, api.OK)
		wantFits16(t, n, 7, 0, 0, v == 7, api.OK)
		wantFits16(t, n, 7, 16, 65535, true, api.OK)
		wantLow16(t, 7, 16, 65535, n, n, api.OK)
	}
}

func TestP4WrongCount(t *testing.T) {
	for _, k := range append(wrongCounts, 17, 18, 20, 31, 32) {
		for _, p := range []uint16{0, 1, 65535} {
			wantLow16(t, 7, k, p, 0, 0, api.ErrNumber)
			wantLow16(t, 7, k, 0, p, 0, api.ErrNumber)
			wantFits16(t, 7, 7, k, p, false, api.ErrNumber)
		}
	}
	for _, k := range wrongCounts {
		for _, p := range []uint32{0, 1, 4294967295} {
			wantLow32(t, 7, k, p, 0, 0, api.ErrNumber)
			wantLow32(t, 7, k, 0, p, 0, api.ErrNumber)
			wantFits32(t, 7, 7, k, p, false, api.ErrNumber)
		}
	}
}

func TestP4WrongShiftOrBits(t *testing.T) {
	for k := 0; k < 16; k++ {
		for _, over := range []uint16{1 << k, 1<<k + 1, 65535} {
			wantLow16(t, 7, k, over, 0, 0, api.ErrNumber)
			wantLow16(t, 7, k, 0, over, 0, api.ErrNumber)
			wantLow16(t, 7, k, over, over, 0, api.ErrNumber)
			wantFits16(t, 7, 7, k, over, false, api.ErrNumber)
		}
	}
	for k := 0; k < 32; k++ {
		for _, over := range []uint32{1 << k, 1<<k + 1, 4294967295} {
			wantLow32(t, 7, k, over, 0, 0, api.ErrNumber)
			wantLow32(t, 7, k, 0, over, 0, api.ErrNumber)
			wantLow32(t, 7, k, over, over, 0, api.ErrNumber)
			wantFits32(t, 7, 7, k, over, false, api.ErrNumber)
		}
	}
}
