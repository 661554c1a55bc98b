package config

import (
	"math"
	"testing"

	"gist/api"
)

func TestValid(t *testing.T) {
	for cids := -2; cids <= 20; cids++ {
		for keep := -2; keep <= 20; keep++ {
			for refresh := -2; refresh <= 210; refresh++ {
				want := cids >= 1 && cids <= 8 && keep >= 1 && keep <= 4 && refresh >= 2 && refresh <= 100
				if is := Valid(api.Config{Cids: cids, Keep: keep, Refresh: refresh}); is != want {
					t.Fatalf("Valid(%d, %d, %d) = %v", cids, keep, refresh, is)
				}
			}
		}
	}
}

// What a number is modulo 2^8, 2^16 or 2^32 does not make it right.
func TestNumbersFarAway(t *testing.T) {
	for _, far := range []int{math.MinInt, math.MaxInt, math.MinInt32, math.MaxInt32, 1 << 8, 1 << 16, 1 << 32, -1 << 8, -1 << 16, -1 << 32} {
		for near := range 4 {
			n := far + near
			for _, c := range []api.Config{{Cids: n, Keep: 1, Refresh: 2}, {Cids: 1, Keep: n, Refresh: 2}, {Cids: 1, Keep: 1, Refresh: n}} {
				if Valid(c) {
					t.Errorf("Valid(%+v)", c)
				}
			}
		}
	}
}
