package timer

import (
	"math"
	"testing"

	"marquee/api"
)

// eachTimer goes through timers with Reloads and Counts at and about the edges, On or not, ringing or not.
func eachTimer(do func(x api.Timer)) {
	edges := []uint16{0, 1, 2, 3, 6, 255, 256, 9999, 19999, 20000, 20001, 0x7fff, 0x8000, 0xfffe, 0xffff}
	for _, reload := range edges {
		for _, count := range edges {
			for bits := range 4 {
				do(api.Timer{Reload: reload, Count: count, On: bits&1 != 0, Rings: bits&2 != 0})
			}
		}
	}
}

// tick is a Tick as the chapter tells it.
func tick(x api.Timer) api.Timer {
	if x.On && x.Count == 0 {
		return api.Timer{Reload: x.Reload, Count: x.Reload, On: true, Rings: true}
	}
	if x.On {
		return api.Timer{Reload: x.Reload, Count: x.Count - 1, On: true, Rings: x.Rings}
	}
	return x
}

func TestSet(t *testing.T) {
	for _, c := range []struct {
		x    api.Timer
		on   bool
		want api.Timer
	}{
		{api.Timer{}, false, api.Timer{}},
		{api.Timer{}, true, api.Timer{On: true}},
		{api.Timer{Reload: 2}, true, api.Timer{Reload: 2, Count: 2, On: true}},
		{api.Timer{Reload: 0xffff, Count: 7}, true, api.Timer{Reload: 0xffff, Count: 0xffff, On: true}},
		{api.Timer{Reload: 0, Count: 7}, true, api.Timer{On: true}},
		{api.Timer{Reload: 5, Count: 3, On: true}, true, api.Timer{Reload: 5, Count: 5, On: true}},
		{api.Timer{Reload: 5, Count: 3, On: true}, false, api.Timer{Reload: 5, Count: 3}},
		{api.Timer{Reload: 5, Count: 3}, false, api.Timer{Reload: 5, Count: 3}},
		{api.Timer{Reload: 5, Rings: true}, true, api.Timer{Reload: 5, Count: 5, On: true, Rings: true}},
		{api.Timer{Reload: 5, On: true, Rings: true}, false, api.Timer{Reload: 5, Rings: true}},
	} {
		if got := Set(c.x, c.on); got != c.want {
			t.Errorf("Set(%+v, %t): %+v, want %+v", c.x, c.on, got, c.want)
		}
	}
}

func TestTick(t *testing.T) {
	for _, c := range []struct{ x, want api.Timer }{
		{api.Timer{}, api.Timer{}},
		{api.Timer{Reload: 9, Count: 4, Rings: true}, api.Timer{Reload: 9, Count: 4, Rings: true}},
		{api.Timer{Reload: 9}, api.Timer{Reload: 9}},
		{api.Timer{On: true}, api.Timer{On: true, Rings: true}},
		{api.Timer{Reload: 9, On: true}, api.Timer{Reload: 9, Count: 9, On: true, Rings: true}},
		{api.Timer{Reload: 9, Count: 1, On: true}, api.Timer{Reload: 9, On: true}},
		{api.Timer{Reload: 9, Count: 4, On: true, Rings: true}, api.Timer{Reload: 9, Count: 3, On: true, Rings: true}},
		{api.Timer{Count: 0xffff, On: true}, api.Timer{Count: 0xfffe, On: true}},
		{api.Timer{Reload: 0xffff, On: true}, api.Timer{Reload: 0xffff, Count: 0xffff, On: true, Rings: true}},
	} {
		if got := Tick(c.x); got != c.want {
			t.Errorf("Tick(%+v): %+v, want %+v", c.x, got, c.want)
		}
	}
}

func TestTickOfEachTimer(t *testing.T) {
	eachTimer(func(x api.Timer) {
		if got, want := Tick(x), tick(x); got != want {
			t.Errorf("Tick(%+v): %+v, want %+v", x, got, want)
		}
	})
}

// The document's example: a Reload of 2 rings at the third clock, and each third one.
func TestRingsEachThirdClock(t *testing.T) {
	x := Set(api.Timer{Reload: 2}, true)
	for clock := 1; clock <= 30; clock++ {
		x.Rings = false
		if x = Tick(x); x.Rings != (clock%3 == 0) {
			t.Errorf("clock %d: rings: %t", clock, x.Rings)
		}
	}
}

func TestRunByHand(t *testing.T) {
	set := api.Timer{Reload: 2, Count: 2, On: true}
	for _, c := range []struct {
		x    api.Timer
		n    int
		want api.Timer
	}{
		{set, 0, set},
		{set, 2, api.Timer{Reload: 2, On: true}},
		{set, 3, api.Timer{Reload: 2, Count: 2, On: true, Rings: true}},
		{set, 5, api.Timer{Reload: 2, On: true, Rings: true}},
		{set, api.MaxClocks, api.Timer{Reload: 2, On: true, Rings: true}},
		{api.Timer{On: true}, 0, api.Timer{On: true}},
		{api.Timer{On: true}, api.MaxClocks, api.Timer{On: true, Rings: true}},
		{api.Timer{Count: 20000, On: true}, api.MaxClocks, api.Timer{On: true}},
		{api.Timer{Count: 19999, On: true}, api.MaxClocks, api.Timer{On: true, Rings: true}},
		{api.Timer{Reload: 0xffff, On: true}, api.MaxClocks, api.Timer{Reload: 0xffff, Count: 45536, On: true, Rings: true}},
		{api.Timer{Reload: 2, Count: 1}, api.MaxClocks, api.Timer{Reload: 2, Count: 1}},
		{api.Timer{Reload: 2, Rings: true}, 1, api.Timer{Reload: 2, Rings: true}},
	} {
		if got, e := Run(c.x, c.n); got != c.want || e != api.OK {
			t.Errorf("Run(%+v, %d): %+v, %d, want %+v, 0", c.x, c.n, got, e, c.want)
		}
	}
}

func TestRunIsTicks(t *testing.T) {
	eachTimer(func(x api.Timer) {
		want := x
		for n := range api.MaxClocks + 1 {
			if got, e := Run(x, n); got != want || e != api.OK {
				t.Fatalf("Run(%+v, %d): %+v, %d, want %+v, 0", x, n, got, e, want)
			}
			want = tick(want)
		}
	})
}

func TestRunInTwoParts(t *testing.T) {
	lengths := []int{0, 1, 2, 3, 5, 7, 250, 256, 300, 9999, 10000}
	eachTimer(func(x api.Timer) {
		for _, n := range lengths {
			for _, m := range lengths {
				half, e := Run(x, n)
				parts, f := Run(half, m)
				one, g := Run(x, n+m)
				if parts != one || e != api.OK || f != api.OK || g != api.OK {
					t.Fatalf("Run(%+v) by %d and %d: %+v, in one: %+v (%d, %d, %d)", x, n, m, parts, one, e, f, g)
				}
			}
		}
	})
}

func TestRunOutOfRange(t *testing.T) {
	for _, n := range []int{math.MinInt, math.MinInt32, -65536, -api.MaxClocks, -1,
		api.MaxClocks + 1, 65535, 65536, 65539, math.MaxInt32, math.MaxInt - 1, math.MaxInt} {
		eachTimer(func(x api.Timer) {
			if got, e := Run(x, n); got != (api.Timer{}) || e != api.ErrRange {
				t.Fatalf("Run(%+v, %d): %+v, %d, want zero, %d", x, n, got, e, api.ErrRange)
			}
		})
	}
}

func TestNext(t *testing.T) {
	for _, c := range []struct {
		x    api.Timer
		want int
	}{
		{api.Timer{}, 0},
		{api.Timer{Reload: 5, Count: 3, Rings: true}, 0},
		{api.Timer{On: true}, 1},
		{api.Timer{Reload: 5, On: true, Rings: true}, 1},
		{api.Timer{Reload: 5, Count: 3, On: true}, 4},
		{api.Timer{Count: 20000, On: true}, 20001},
		{api.Timer{Count: 0xffff, On: true}, 65536},
	} {
		if got := Next(c.x); got != c.want {
			t.Errorf("Next(%+v): %d, want %d", c.x, got, c.want)
		}
	}
}

// Next is the first Tick that finds the Count at 0.
func TestNextIsCountedByTicks(t *testing.T) {
	eachTimer(func(x api.Timer) {
		want := 0
		if x.On {
			want = 1
			for y := x; y.Count != 0; y = tick(y) {
				want++
			}
		}
		if got := Next(x); got != want {
			t.Errorf("Next(%+v): %d, want %d", x, got, want)
		}
	})
}
