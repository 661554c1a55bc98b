package receiver

import (
	"strings"
	"testing"

	"gist/api"
)

// at is a receiver whose context has packet n of a flow, on turn 1.
func at(t *testing.T, cids, cid, n int) *Receiver {
	t.Helper()
	r := begun(t, cids)
	takes(t, r, made(api.Whole, cid, 1, regular(4, n)), regular(4, n))
	return r
}

// refuses: no frame, and nothing is changed by it.
func refuses(t *testing.T, r *Receiver, f string) {
	t.Helper()
	was := *r
	misses(t, r, f, "", api.ErrFrame)
	if *r != was {
		t.Fatalf("behind %.30x: %+v, before %+v", f, *r, was)
	}
}

func TestLengths(t *testing.T) {
	x := strings.Repeat("x", 100)
	for kind := range 4 {
		p := regular(4, 6)
		f := made(kind, 0, 1, p)
		for length := range len(f) {
			refuses(t, at(t, 1, 0, 5), f[:length])
			refuses(t, begun(t, 1), f[:length])
		}
		takes(t, at(t, 1, 0, 5), f, p)
		for _, length := range []int{1, 99, 100} {
			p.Body = x[:length]
			takes(t, at(t, 1, 0, 5), f+p.Body, p)
		}
		for _, body := range []string{x + "x", x + x, strings.Repeat(x, 50000)} {
			refuses(t, at(t, 1, 0, 5), f+body)
			refuses(t, begun(t, 1), f+body)
		}
	}
}

func TestFirstBytes(t *testing.T) {
	for cids := 1; cids <= 8; cids++ {
		for first := range 256 {
			kind, turn, cid := first/64, first/16%4, first/2%8
			p := regular(4, 6)
			f := string([]byte{byte(first)}) + made(kind, cid, turn, p)[1:]
			if first%2 == 1 || cid >= cids {
				refuses(t, at(t, cids, cid%cids, 5), f)
				refuses(t, begun(t, cids), f)
				continue
			}
			r := at(t, cids, cid, 5)
			if kind == api.Whole || turn == 1 {
				takes(t, r, f, p)
			} else {
				misses(t, r, f, "", api.ErrTurn)
			}
			if kind != api.Whole {
				misses(t, begun(t, cids), f, "S"+string([]byte{byte(cid)}), api.ErrContext)
			}
		}
	}
}

// Every second byte of a TINY frame, every check of a SHORT, FULL and WHOLE one.
func TestEveryCheck(t *testing.T) {
	for _, c := range []struct{ kind, at int }{{api.Tiny, 1}, {api.Short, 4}, {api.Full, 12}, {api.Whole, 22}} {
		p := regular(4, 6)
		p.Body = "b"
		f := made(c.kind, 0, 1, p)
		for n := range 256 {
			r := at(t, 1, 0, 5)
			g := f[:c.at] + string([]byte{byte(n)}) + f[c.at+1:]
			switch {
			case g == f:
				takes(t, r, g, p)
			case c.kind == api.Tiny && n%2 == 1, c.kind == api.Short && n > 127:
				refuses(t, r, g)
			case c.kind == api.Tiny && n/16 != 6:
				// Another Seq, of which the check may be right.
				q := regular(4, 4+(n/16-4+16)%16)
				q.Body = "b"
				if made(api.Tiny, 0, 1, q) == g {
					takes(t, r, g, q)
				} else {
					misses(t, r, g, "", api.ErrCheck)
				}
			default:
				misses(t, r, g, "", api.ErrCheck)
			}
		}
	}
}

// Where several errors apply: first what is no frame, then the context, then
// the turn, then the check.
func TestOrderOfErrors(t *testing.T) {
	for kind := api.Tiny; kind <= api.Full; kind++ {
		f := spoilt(made(kind, 0, 1, regular(4, 6)))
		other := spoilt(made(kind, 0, 2, regular(4, 6)))
		for _, bad := range []string{f[:len(f)-1], f + strings.Repeat("x", 101), turned(f, 0), turned(f, 1)} {
			refuses(t, begun(t, 1), bad)
			refuses(t, at(t, 1, 0, 5), bad)
		}
		misses(t, begun(t, 1), other, "S\x00", api.ErrContext)
		misses(t, begun(t, 1), f, "S\x00", api.ErrContext)
		misses(t, at(t, 1, 0, 5), other, "", api.ErrTurn)
		misses(t, at(t, 1, 0, 5), f, "", api.ErrCheck)
	}
	// The turn of an empty context is none, not 0.
	misses(t, begun(t, 1), made(api.Full, 0, 0, regular(4, 6)), "S\x00", api.ErrContext)
	misses(t, begun(t, 1), made(api.Full, 0, 3, regular(4, 6)), "S\x00", api.ErrContext)
	// A whole frame has no turn to keep to, and its form comes first.
	whole := spoilt(made(api.Whole, 0, 2, regular(4, 6)))
	misses(t, at(t, 1, 0, 5), whole, "", api.ErrCheck)
	misses(t, begun(t, 1), whole, "", api.ErrCheck)
	for _, bad := range []string{whole[:22], whole + strings.Repeat("x", 101), turned(whole, 0), turned(whole, 1)} {
		refuses(t, at(t, 1, 0, 5), bad)
	}
}
