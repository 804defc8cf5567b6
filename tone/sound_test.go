package tone

import (
	"bytes"
	"math"
	"testing"

	"marquee/api"
)

// someSounds are sounds of all kinds of voices, their next sample due at once.
func someSounds() []api.Sound {
	return []api.Sound{
		{},
		{V: [3]api.Voice{{Loud: 15, High: true}, {Loud: 15, High: true}, {Loud: 15, High: true}}},
		{V: [3]api.Voice{{Period: 15, Loud: 1}, {Period: 31, Count: 4, Loud: 0xf2}, {Period: 63, Count: 9, Loud: 4}}},
		{V: [3]api.Voice{{Loud: 3, Noise: 0xace1}, {Period: 6, Loud: 5, Noise: 1}, {Period: 300, Loud: 7, Noise: 0xffff}}},
		{V: [3]api.Voice{{Period: 0xffff, Count: 0xffff, Loud: 8, High: true}, {Count: 19999, Loud: 2}, {Count: 20000, Loud: 1, High: true}}},
		{V: [3]api.Voice{{Period: 100, Count: 3, Loud: 0xff}, {Period: 7, Count: 90, Loud: 0x80, High: true}, {Period: 2, Loud: 9, Noise: 0x8000}}},
	}
}

// samples is what the chapter asks of Samples, clock by clock.
func samples(s api.Sound, n int) ([]byte, api.Sound) {
	var l []byte
	for range n {
		if s.Wait == 0 {
			sum := 0
			for _, v := range s.V {
				if v.High {
					sum += int(v.Loud) % 16
				}
			}
			l = append(l, byte(sum))
			s.Wait = 16
		}
		s.Wait--
		for i := range s.V {
			s.V[i] = tick(s.V[i])
		}
	}
	return l, s
}

// eachSound goes through the sounds, each with each Wait that may be.
func eachSound(do func(s api.Sound)) {
	for _, s := range someSounds() {
		for s.Wait = range 16 {
			do(s)
		}
	}
}

func TestCheck(t *testing.T) {
	for wait := -40; wait <= 300; wait++ {
		want := api.ErrRange
		if wait >= 0 && wait <= 15 {
			want = api.OK
		}
		for _, s := range someSounds() {
			s.Wait = wait
			if got := Check(s); got != want {
				t.Errorf("Check(%+v): %d, want %d", s, got, want)
			}
		}
	}
	for _, wait := range []int{math.MinInt, -1 << 32, 1 << 32, math.MaxInt} {
		if got := Check(api.Sound{Wait: wait}); got != api.ErrRange {
			t.Errorf("Check of a Wait of %d: %d", wait, got)
		}
	}
}

func TestSamplesByHand(t *testing.T) {
	still := api.Voice{Period: 0xffff, Count: 0xffff, Loud: 0xff, High: true}
	chord := [3]api.Voice{still, still, still}
	for _, c := range []struct {
		s    api.Sound
		n    int
		want []byte
		wait int
	}{
		{api.Sound{V: chord}, 0, nil, 0},
		{api.Sound{V: chord}, 1, []byte{45}, 15},
		{api.Sound{V: chord}, 16, []byte{45}, 0},
		{api.Sound{V: chord}, 17, []byte{45, 45}, 15},
		{api.Sound{V: chord, Wait: 15}, 15, nil, 0},
		{api.Sound{V: chord, Wait: 15}, 16, []byte{45}, 15},
		{api.Sound{V: chord, Wait: 1}, 1, nil, 0},
		// The sample is told ahead of the Tick of its clock.
		{api.Sound{V: [3]api.Voice{{Loud: 0x16}}}, 1, []byte{0}, 15},
		{api.Sound{V: [3]api.Voice{{Loud: 0x16, High: true}}}, 1, []byte{6}, 15},
		{api.Sound{V: [3]api.Voice{{Loud: 0x16}}, Wait: 1}, 2, []byte{6}, 15},
		{api.Sound{V: [3]api.Voice{{Loud: 5, Noise: 1}}, Wait: 2}, 35, []byte{0, 0, 5}, 15},
	} {
		l, out, e := Samples(c.s, c.n)
		if !bytes.Equal(l, c.want) || out.Wait != c.wait || e != api.OK {
			t.Errorf("Samples(%+v, %d): %d, Wait %d, %d, want %d, Wait %d, 0", c.s, c.n, l, out.Wait, e, c.want, c.wait)
		}
	}
}

func TestSamplesClockByClock(t *testing.T) {
	lengths := []int{31, 32, 33, 47, 48, 49, 640, 9999, api.MaxClocks - 1, api.MaxClocks}
	for n := range 20 {
		lengths = append(lengths, n)
	}
	eachSound(func(s api.Sound) {
		for _, n := range lengths {
			want, then := samples(s, n)
			if l, out, e := Samples(s, n); !bytes.Equal(l, want) || out != then || e != api.OK {
				t.Fatalf("Samples(%+v, %d): %d, %+v, %d, want %d, %+v, 0", s, n, l, out, e, want, then)
			}
		}
	})
}

func TestSamplesInTwoParts(t *testing.T) {
	lengths := []int{0, 1, 2, 14, 15, 16, 17, 33, 300, 10000}
	eachSound(func(s api.Sound) {
		for _, n := range lengths {
			for _, m := range lengths {
				first, half, e := Samples(s, n)
				second, parts, f := Samples(half, m)
				l, one, g := Samples(s, n+m)
				if !bytes.Equal(append(first, second...), l) || parts != one || e != api.OK || f != api.OK || g != api.OK {
					t.Fatalf("Samples(%+v) by %d and %d aren't those in one (%d, %d, %d)", s, n, m, e, f, g)
				}
			}
		}
	})
}

func TestSamplesOfNoise(t *testing.T) {
	eachSound(func(s api.Sound) {
		_, out, _ := Samples(s, api.MaxClocks)
		for i, v := range out.V {
			if (v.Noise == 0) != (s.V[i].Noise == 0) {
				t.Fatalf("Samples(%+v): %+v", s, out)
			}
		}
	})
}

func TestSamplesWrong(t *testing.T) {
	refused := func(s api.Sound, n int) {
		if l, out, e := Samples(s, n); len(l) != 0 || out != (api.Sound{}) || e != api.ErrRange {
			t.Errorf("Samples(%+v, %d): %d, %+v, %d, want zero, %d", s, n, l, out, e, api.ErrRange)
		}
	}
	for _, s := range someSounds() {
		for _, n := range wrongClocks() {
			refused(s, n)
		}
		for _, s.Wait = range []int{math.MinInt, -16, -1, 16, 17, 32, math.MaxInt} {
			refused(s, 0)
			refused(s, 100)
			refused(s, -1)
		}
	}
}
