package tone

import (
	"math"
	"testing"

	"marquee/api"
)

// eachVoice goes through voices with Periods and Counts at and about the edges, High or not, square waves and noises.
func eachVoice(do func(v api.Voice)) {
	edges := []uint16{0, 1, 2, 15, 16, 255, 256, 9999, 19999, 20000, 0x7fff, 0x8000, 0xfffe, 0xffff}
	for _, period := range edges {
		for _, count := range edges {
			for _, noise := range []uint16{0, 1, 2, 0x8000, 0xace1, 0xffff} {
				do(api.Voice{Period: period, Count: count, Loud: 0xf7, Noise: noise})
				do(api.Voice{Period: period, Count: count, Loud: 9, High: true, Noise: noise})
			}
		}
	}
}

// tick is a Tick as the chapter tells it, by plain numbers.
func tick(v api.Voice) api.Voice {
	if v.Count > 0 {
		v.Count--
		return v
	}
	v.Count = v.Period
	if v.Noise == 0 {
		v.High = !v.High
		return v
	}
	lowest := v.Noise % 2
	v.High = lowest == 1
	v.Noise = v.Noise/2 ^ lowest*0xb400
	return v
}

// wrongClocks are numbers outside 0 to MaxClocks.
func wrongClocks() []int {
	return []int{math.MinInt, math.MinInt32, -65536, -api.MaxClocks, -1,
		api.MaxClocks + 1, 65535, 65536, math.MaxInt32, math.MaxInt - 1, math.MaxInt}
}

func TestTick(t *testing.T) {
	for _, c := range []struct{ v, want api.Voice }{
		{api.Voice{}, api.Voice{High: true}},
		{api.Voice{High: true}, api.Voice{}},
		{api.Voice{Period: 9}, api.Voice{Period: 9, Count: 9, High: true}},
		{api.Voice{Period: 0xffff, High: true, Loud: 0xff}, api.Voice{Period: 0xffff, Count: 0xffff, Loud: 0xff}},
		{api.Voice{Period: 9, Count: 1}, api.Voice{Period: 9}},
		{api.Voice{Count: 0xffff, High: true}, api.Voice{Count: 0xfffe, High: true}},
		{api.Voice{Count: 1, High: true, Noise: 6}, api.Voice{High: true, Noise: 6}},
		{api.Voice{Period: 4, High: true, Noise: 6}, api.Voice{Period: 4, Count: 4, Noise: 3}},
		{api.Voice{Period: 4, High: true, Noise: 7}, api.Voice{Period: 4, Count: 4, High: true, Noise: 0xb403}},
		{api.Voice{Noise: 1}, api.Voice{High: true, Noise: 0xb400}},
		{api.Voice{Noise: 0xffff}, api.Voice{High: true, Noise: 0xcbff}},
		{api.Voice{Noise: 0x8000}, api.Voice{Noise: 0x4000}},
	} {
		if got := Tick(c.v); got != c.want {
			t.Errorf("Tick(%+v): %+v, want %+v", c.v, got, c.want)
		}
	}
}

func TestTickOfEachVoice(t *testing.T) {
	eachVoice(func(v api.Voice) {
		if got, want := Tick(v), tick(v); got != want {
			t.Errorf("Tick(%+v): %+v, want %+v", v, got, want)
		}
	})
}

// No noise comes to 0, and each one comes back to itself behind all the others.
func TestTickOfEachNoise(t *testing.T) {
	for noise := 1; noise < 1<<16; noise++ {
		v := api.Voice{Noise: uint16(noise)}
		if got, want := Tick(v), tick(v); got != want || got.Noise == 0 {
			t.Fatalf("Tick(%+v): %+v, want %+v", v, got, want)
		}
	}
	v := api.Voice{Noise: 1}
	for n := 1; n < 1<<16; n++ {
		if v = Tick(v); (v.Noise == 1) != (n == 1<<16-1) {
			t.Fatalf("Tick %d: %+v", n, v)
		}
	}
}

func TestRunByHand(t *testing.T) {
	for _, c := range []struct {
		v    api.Voice
		n    int
		want api.Voice
	}{
		{api.Voice{Period: 2, Count: 2}, 0, api.Voice{Period: 2, Count: 2}},
		{api.Voice{Period: 2}, 0, api.Voice{Period: 2}},
		{api.Voice{Period: 2, Count: 2}, 2, api.Voice{Period: 2}},
		{api.Voice{Period: 2, Count: 2}, 3, api.Voice{Period: 2, Count: 2, High: true}},
		{api.Voice{Period: 2, Count: 2}, 5, api.Voice{Period: 2, High: true}},
		{api.Voice{Period: 2, Count: 2}, 6, api.Voice{Period: 2, Count: 2}},
		{api.Voice{}, api.MaxClocks - 1, api.Voice{High: true}},
		{api.Voice{}, api.MaxClocks, api.Voice{}},
		{api.Voice{Count: 20000}, api.MaxClocks, api.Voice{}},
		{api.Voice{Count: 19999}, api.MaxClocks, api.Voice{High: true}},
		{api.Voice{Period: 0xffff}, api.MaxClocks, api.Voice{Period: 0xffff, Count: 45536, High: true}},
		{api.Voice{Noise: 3}, 2, api.Voice{High: true, Noise: 0xee00}},
		{api.Voice{Period: 1, Noise: 4}, 5, api.Voice{Period: 1, Count: 1, High: true, Noise: 0xb400}},
	} {
		if got, e := Run(c.v, c.n); got != c.want || e != api.OK {
			t.Errorf("Run(%+v, %d): %+v, %d, want %+v, 0", c.v, c.n, got, e, c.want)
		}
	}
}

func TestRunIsTicks(t *testing.T) {
	eachVoice(func(v api.Voice) {
		want := v
		for n := range api.MaxClocks + 1 {
			if n < 64 || n%997 == 0 || n > api.MaxClocks-3 {
				if got, e := Run(v, n); got != want || e != api.OK {
					t.Fatalf("Run(%+v, %d): %+v, %d, want %+v, 0", v, n, got, e, want)
				}
			}
			want = tick(want)
		}
	})
}

func TestRunInTwoParts(t *testing.T) {
	lengths := []int{0, 1, 2, 17, 256, 300, 10000}
	eachVoice(func(v api.Voice) {
		for _, n := range lengths {
			for _, m := range lengths {
				half, e := Run(v, n)
				parts, f := Run(half, m)
				one, g := Run(v, n+m)
				if parts != one || e != api.OK || f != api.OK || g != api.OK {
					t.Fatalf("Run(%+v) by %d and %d: %+v, in one: %+v (%d, %d, %d)", v, n, m, parts, one, e, f, g)
				}
			}
		}
	})
}

func TestRunOutOfRange(t *testing.T) {
	for _, n := range wrongClocks() {
		eachVoice(func(v api.Voice) {
			if got, e := Run(v, n); got != (api.Voice{}) || e != api.ErrRange {
				t.Fatalf("Run(%+v, %d): %+v, %d, want zero, %d", v, n, got, e, api.ErrRange)
			}
		})
	}
}
