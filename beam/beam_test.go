package beam

import (
	"math"
	"testing"

	"marquee/api"
)

// eachPlace goes through all places of a frame, ringing or not.
func eachPlace(frame int, do func(b api.Beam)) {
	for line := range api.AllLines {
		for at := range api.LineTime {
			do(api.Beam{Line: line, At: at, Frame: frame})
			do(api.Beam{Line: line, At: at, Frame: frame, Rings: true})
		}
	}
}

// edges are beams at and about the places where something happens.
func edges() []api.Beam {
	var l []api.Beam
	for _, line := range []int{0, 1, 6, 7, 8, 9} {
		for _, at := range []int{0, 1, 31, 62, 63} {
			for _, frame := range []int{0, 1, 77, api.MaxClocks - 32, api.MaxClocks} {
				l = append(l, api.Beam{Line: line, At: at, Frame: frame}, api.Beam{Line: line, At: at, Frame: frame, Rings: true})
			}
		}
	}
	return l
}

// clock is one clock as the chapter tells it.
func clock(b api.Beam) api.Beam {
	b.At++
	if b.At < 64 {
		return b
	}
	b.At = 0
	b.Line++
	if b.Line == 8 {
		b.Rings = true
	}
	if b.Line == 10 {
		b.Line = 0
		b.Frame++
	}
	return b
}

// wrongBeams are beams of which one thing or another may not be.
func wrongBeams() []api.Beam {
	var l []api.Beam
	for _, x := range []int{math.MinInt, math.MinInt32, -65536, -640, -64, -10, -1} {
		l = append(l, api.Beam{Line: x}, api.Beam{At: x}, api.Beam{Frame: x}, api.Beam{Line: x, At: x, Frame: x, Rings: true})
	}
	for _, x := range []int{20001, 65536, math.MaxInt32, math.MaxInt - 1, math.MaxInt} {
		l = append(l, api.Beam{Line: x}, api.Beam{At: x}, api.Beam{Frame: x}, api.Beam{Line: x, At: x, Frame: x, Rings: true})
	}
	return append(l,
		api.Beam{Line: 10}, api.Beam{Line: 11, At: 5}, api.Beam{Line: 63}, api.Beam{At: 64}, api.Beam{Line: 9, At: 65},
		api.Beam{Line: -1, At: 64}, api.Beam{Line: 9, At: 63, Frame: 20001}, api.Beam{Line: 10, At: 63, Frame: 20000})
}

func wrongTimes() []int {
	return []int{math.MinInt, math.MinInt32, -65536, -api.MaxClocks, -640, -1,
		api.MaxClocks + 1, 65536, math.MaxInt32, math.MaxInt - 1, math.MaxInt}
}

func TestCheck(t *testing.T) {
	for _, frame := range []int{0, 1, api.MaxClocks - 1, api.MaxClocks} {
		eachPlace(frame, func(b api.Beam) {
			if e := Check(b); e != api.OK {
				t.Errorf("Check(%+v): %d, want 0", b, e)
			}
		})
	}
	for _, b := range wrongBeams() {
		if e := Check(b); e != api.ErrRange {
			t.Errorf("Check(%+v): %d, want %d", b, e, api.ErrRange)
		}
	}
}

func TestRunByHand(t *testing.T) {
	for _, c := range []struct {
		b    api.Beam
		n    int
		want api.Beam
	}{
		{api.Beam{}, 0, api.Beam{}},
		{api.Beam{}, 1, api.Beam{At: 1}},
		{api.Beam{}, 63, api.Beam{At: 63}},
		{api.Beam{}, 64, api.Beam{Line: 1}},
		{api.Beam{}, 511, api.Beam{Line: 7, At: 63}},
		{api.Beam{}, 512, api.Beam{Line: 8, Rings: true}},
		{api.Beam{}, 639, api.Beam{Line: 9, At: 63, Rings: true}},
		{api.Beam{}, 640, api.Beam{Frame: 1, Rings: true}},
		{api.Beam{}, api.MaxClocks, api.Beam{Line: 2, At: 32, Frame: 31, Rings: true}},
		{api.Beam{Line: 8}, 0, api.Beam{Line: 8}},
		{api.Beam{Line: 8}, 1, api.Beam{Line: 8, At: 1}},
		{api.Beam{Line: 8}, 128, api.Beam{Frame: 1}},
		{api.Beam{Line: 8}, 639, api.Beam{Line: 7, At: 63, Frame: 1}},
		{api.Beam{Line: 8}, 640, api.Beam{Line: 8, Frame: 1, Rings: true}},
		{api.Beam{Line: 7, At: 63}, 1, api.Beam{Line: 8, Rings: true}},
		{api.Beam{Line: 9, At: 63, Frame: 5}, 1, api.Beam{Frame: 6}},
		{api.Beam{Line: 9, At: 63, Frame: 5}, 512, api.Beam{Line: 7, At: 63, Frame: 6}},
		{api.Beam{Line: 9, At: 63, Frame: 5}, 513, api.Beam{Line: 8, Frame: 6, Rings: true}},
		{api.Beam{Line: 3, At: 4, Rings: true}, 0, api.Beam{Line: 3, At: 4, Rings: true}},
		{api.Beam{Line: 3, At: 4, Rings: true}, 1, api.Beam{Line: 3, At: 5, Rings: true}},
		{api.Beam{Line: 9, At: 63, Frame: api.MaxClocks}, 0, api.Beam{Line: 9, At: 63, Frame: api.MaxClocks}},
		{api.Beam{Line: 9, At: 63, Frame: api.MaxClocks - 1}, 1, api.Beam{Frame: api.MaxClocks}},
	} {
		if got, e := Run(c.b, c.n); got != c.want || e != api.OK {
			t.Errorf("Run(%+v, %d): %+v, %d, want %+v, 0", c.b, c.n, got, e, c.want)
		}
	}
}

func TestRunIsClocks(t *testing.T) {
	for _, b := range edges() {
		want := b
		for n := range api.MaxClocks + 1 {
			if got, e := Run(b, n); got != want || e != api.OK {
				t.Fatalf("Run(%+v, %d): %+v, %d, want %+v, 0", b, n, got, e, want)
			}
			want = clock(want)
		}
	}
}

func TestRunFromEachPlace(t *testing.T) {
	eachPlace(3, func(b api.Beam) {
		want := b
		for n := range 1300 {
			if got, e := Run(b, n); got != want || e != api.OK {
				t.Fatalf("Run(%+v, %d): %+v, %d, want %+v, 0", b, n, got, e, want)
			}
			want = clock(want)
		}
	})
}

func TestRunInTwoParts(t *testing.T) {
	lengths := []int{0, 1, 2, 63, 64, 65, 127, 128, 511, 512, 513, 639, 640, 641, 9999, 10000}
	for _, b := range edges() {
		for _, n := range lengths {
			for _, m := range lengths {
				half, e := Run(b, n)
				if Check(half) != api.OK {
					continue // the frames are over: there is nothing to go on from
				}
				parts, f := Run(half, m)
				one, g := Run(b, n+m)
				if parts != one || e != api.OK || f != api.OK || g != api.OK {
					t.Fatalf("Run(%+v) by %d and %d: %+v, in one: %+v (%d, %d, %d)", b, n, m, parts, one, e, f, g)
				}
			}
		}
	}
}

func TestRunWrong(t *testing.T) {
	for _, b := range wrongBeams() {
		for _, n := range append(wrongTimes(), 0, 1, api.MaxClocks) {
			if got, e := Run(b, n); got != (api.Beam{}) || e != api.ErrRange {
				t.Errorf("Run(%+v, %d): %+v, %d, want zero, %d", b, n, got, e, api.ErrRange)
			}
		}
	}
	for _, b := range edges() {
		for _, n := range wrongTimes() {
			if got, e := Run(b, n); got != (api.Beam{}) || e != api.ErrRange {
				t.Errorf("Run(%+v, %d): %+v, %d, want zero, %d", b, n, got, e, api.ErrRange)
			}
		}
	}
}

// Next is how many clocks it takes until At is 0.
func TestNext(t *testing.T) {
	eachPlace(api.MaxClocks, func(b api.Beam) {
		want := 0
		for c := b; c.At != 0; c = clock(c) {
			want++
		}
		if got, e := Next(b); got != want || e != api.OK {
			t.Errorf("Next(%+v): %d, %d, want %d, 0", b, got, e, want)
		}
	})
	for _, c := range []struct{ at, want int }{{0, 0}, {1, 63}, {60, 4}, {63, 1}} {
		if got, e := Next(api.Beam{Line: 9, At: c.at}); got != c.want || e != api.OK {
			t.Errorf("Next at %d: %d, %d, want %d, 0", c.at, got, e, c.want)
		}
	}
}

func TestNextWrong(t *testing.T) {
	for _, b := range wrongBeams() {
		if got, e := Next(b); got != 0 || e != api.ErrRange {
			t.Errorf("Next(%+v): %d, %d, want 0, %d", b, got, e, api.ErrRange)
		}
	}
}
