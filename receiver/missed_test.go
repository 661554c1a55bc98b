package receiver

import (
	"fmt"
	"slices"
	"testing"

	"gist/api"
)

func TestFeedbackOfEachError(t *testing.T) {
	for kind := api.Tiny; kind <= api.Full; kind++ {
		for _, cid := range []int{0, 5, 7} {
			good := made(kind, cid, 1, regular(4, 6))
			for _, c := range []struct {
				e     api.Errno
				frame string
				r     *Receiver
			}{
				{api.ErrContext, good, begun(t, 8)},
				{api.ErrTurn, made(kind, cid, 2, regular(4, 6)), at(t, 8, cid, 5)},
				{api.ErrCheck, spoilt(good), at(t, 8, cid, 5)},
			} {
				was := *c.r
				for n := 1; n <= 600; n++ {
					misses(t, c.r, c.frame, asksFor(c.e, n%256, cid), c.e)
					was.contexts[cid].missed = uint8(n % 256)
					if *c.r != was {
						t.Fatalf("error %d, behind %d frames: %+v, want %+v", c.e, n, *c.r, was)
					}
					if l := c.r.Flows(); c.e == api.ErrContext && l != nil || c.e != api.ErrContext && (len(l) != 1 || l[0].Count != n%256) {
						t.Fatalf("error %d, behind %d frames: %+v", c.e, n, l)
					}
				}
			}
		}
	}
}

// The first answers written out: no D ahead of a first whole frame.
func TestFirstAnswers(t *testing.T) {
	for _, c := range []struct {
		r     *Receiver
		frame string
		want  string
	}{
		{begun(t, 2), made(api.Full, 1, 1, regular(4, 6)), "S---S---S"},
		{at(t, 2, 1, 5), made(api.Tiny, 1, 0, regular(4, 6)), "-D-S-D-S-D"},
		{at(t, 2, 1, 5), spoilt(made(api.Short, 1, 1, regular(4, 6))), "-D-S-D-S-D"},
	} {
		got := ""
		for range c.want {
			_, back, _ := c.r.Take(c.frame)
			switch back {
			case "":
				back = "-"
			case "S\x01", "D\x01":
				back = back[:1]
			}
			got += back
		}
		if got != c.want {
			t.Errorf("Take(%x) again and again: %s, want %s", c.frame, got, c.want)
		}
	}
}

// The two errors of a context that has a state count together, in any order.
func TestErrorsCountTogether(t *testing.T) {
	for order := range 1 << 8 {
		r := at(t, 1, 0, 5)
		for n := 1; n <= 8; n++ {
			kind := n % 3
			f, e := made(kind, 0, 3, regular(4, 6)), api.ErrTurn
			if order>>(n-1)&1 == 1 {
				f, e = spoilt(made(kind, 0, 1, regular(4, 6))), api.ErrCheck
			}
			misses(t, r, f, asksFor(e, n, 0), e)
		}
	}
}

// What is no frame and what is spoilt whole counts on no context, and does not
// set the count back.
func TestWhatDoesNotCount(t *testing.T) {
	r := at(t, 2, 1, 5)
	quiet := []string{"", "\x02", "\x03", "\x04\x00", "\x42abc", "\x42abc\x80", spoilt(made(api.Whole, 1, 1, regular(4, 9))), spoilt(made(api.Whole, 0, 1, regular(4, 9)))}
	for n := 1; n <= 300; n++ {
		for _, f := range quiet {
			if _, back, e := r.Take(f); back != "" || (e != api.ErrFrame && e != api.ErrCheck) {
				t.Fatalf("Take(%x): %q, %d", f, back, e)
			}
		}
		misses(t, r, made(api.Full, 1, 2, regular(4, 6)), asksFor(api.ErrTurn, n%256, 1), api.ErrTurn)
	}
	if want := (api.Flow{Cid: 1, Turn: 1, Route: regular(4, 0).Route, Seq: 5, Count: 300 - 256}); !slices.Equal(r.Flows(), []api.Flow{want}) {
		t.Errorf("%+v, want %+v", r.Flows(), want)
	}
	if r.contexts[0] != (context{}) {
		t.Errorf("context 0: %+v", r.contexts[0])
	}
}

// Each kind that is believed sets MISSED to 0, from each number.
func TestMissedBecomesNought(t *testing.T) {
	for kind := range 4 {
		for _, missed := range []int{1, 2, 3, 4, 5, 255, 256, 257} {
			r := at(t, 1, 0, 5)
			for range missed {
				r.Take(made(api.Full, 0, 2, regular(4, 6)))
			}
			takes(t, r, made(kind, 0, 1, regular(4, 6)), regular(4, 6))
			if l := r.Flows(); len(l) != 1 || l[0].Count != 0 || l[0].Seq != 6 {
				t.Errorf("kind %d, MISSED %d: %+v", kind, missed, l)
			}
			misses(t, r, made(api.Full, 0, 2, regular(4, 6)), "", api.ErrTurn)
			misses(t, r, made(api.Full, 0, 2, regular(4, 6)), "D\x00", api.ErrTurn)
		}
	}
	r := begun(t, 1)
	for range 5 {
		r.Take(made(api.Tiny, 0, 1, regular(4, 6)))
	}
	takes(t, r, made(api.Whole, 0, 1, regular(4, 5)), regular(4, 5))
	if l := r.Flows(); len(l) != 1 || l[0].Count != 0 {
		t.Errorf("behind the first whole frame: %+v", l)
	}
	misses(t, r, made(api.Tiny, 0, 2, regular(4, 6)), "", api.ErrTurn)
	misses(t, r, made(api.Tiny, 0, 2, regular(4, 6)), "D\x00", api.ErrTurn)
}

// Contexts count on their own.
func TestMissedOfEachContext(t *testing.T) {
	r := begun(t, 8)
	for cid := 0; cid < 8; cid += 2 {
		takes(t, r, made(api.Whole, cid, 0, regular(4, 5)), regular(4, 5))
	}
	var missed [8]int
	for n := range 4000 {
		cid := n * n / 3 % 8
		missed[cid] = (missed[cid] + 1) % 256
		e := api.ErrTurn
		if cid%2 == 1 {
			e = api.ErrContext
		}
		misses(t, r, made(n%3, cid, 1, regular(4, 6)), asksFor(e, missed[cid], cid), e)
	}
	for _, l := range r.Flows() {
		if l.Count != missed[l.Cid] || l.Cid%2 == 1 {
			t.Errorf("%+v, want MISSED %s", l, fmt.Sprint(missed))
		}
	}
}
