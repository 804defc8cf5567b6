package tone

import (
	"math"
	"testing"

	"marquee/api"
)

// put is what the chapter asks of Put, by plain numbers.
func put(s api.Sound, at int, b byte) api.Sound {
	v, n := &s.V[at/8], uint16(b)
	switch at % 8 {
	case 0:
		v.Period = n*256 + v.Period%256
	case 1:
		v.Period = v.Period/256*256 + n
	case 2:
		v.Loud = b % 16
	case 3:
		v.Noise = n*256 + v.Noise%256
	case 4:
		v.Noise = v.Noise/256*256 + n
	}
	return s
}

func TestPutByHand(t *testing.T) {
	v := api.Voice{Period: 0x1234, Count: 0x5678, Loud: 0xab, High: true, Noise: 0xcdef}
	for _, c := range []struct {
		at   int
		b    byte
		want api.Voice
	}{
		{0, 0x99, api.Voice{Period: 0x9934, Count: 0x5678, Loud: 0xab, High: true, Noise: 0xcdef}},
		{1, 0x99, api.Voice{Period: 0x1299, Count: 0x5678, Loud: 0xab, High: true, Noise: 0xcdef}},
		{2, 0x99, api.Voice{Period: 0x1234, Count: 0x5678, Loud: 0x09, High: true, Noise: 0xcdef}},
		{3, 0x99, api.Voice{Period: 0x1234, Count: 0x5678, Loud: 0xab, High: true, Noise: 0x99ef}},
		{4, 0x99, api.Voice{Period: 0x1234, Count: 0x5678, Loud: 0xab, High: true, Noise: 0xcd99}},
		{4, 0x00, api.Voice{Period: 0x1234, Count: 0x5678, Loud: 0xab, High: true, Noise: 0xcd00}},
		{5, 0x99, v},
		{6, 0x99, v},
		{7, 0x99, v},
	} {
		for who := range 3 {
			s := api.Sound{V: [3]api.Voice{v, v, v}, Wait: 7}
			want := s
			want.V[who] = c.want
			if got, e := Put(s, who*8+c.at, c.b); got != want || e != api.OK {
				t.Errorf("Put(%+v, %d, %#x): %+v, %d, want %+v, 0", s, who*8+c.at, c.b, got, e, want)
			}
		}
	}
}

func TestPutEachByte(t *testing.T) {
	eachSound(func(s api.Sound) {
		for at := range 24 {
			for b := range 256 {
				want := put(s, at, byte(b))
				if got, e := Put(s, at, byte(b)); got != want || e != api.OK {
					t.Fatalf("Put(%+v, %d, %#x): %+v, %d, want %+v, 0", s, at, b, got, e, want)
				}
			}
		}
	})
}

// Put asks nothing of Wait: it is as it was handed in.
func TestPutLeavesWait(t *testing.T) {
	for _, wait := range []int{math.MinInt, -1, 15, 16, math.MaxInt} {
		want := api.Sound{Wait: wait}
		want.V[2].Loud = 3
		if got, e := Put(api.Sound{Wait: wait}, 18, 0xf3); got != want || e != api.OK {
			t.Errorf("Put with a Wait of %d: %+v, %d, want %+v, 0", wait, got, e, want)
		}
	}
}

func TestPutAtNoPort(t *testing.T) {
	for _, at := range []int{math.MinInt, -1 << 32, -256, -24, -8, -1, 24, 25, 32, 255, 256, 1 << 32, math.MaxInt} {
		for _, s := range someSounds() {
			if got, e := Put(s, at, 0xff); got != (api.Sound{}) || e != api.ErrRange {
				t.Errorf("Put(%+v, %d): %+v, %d, want zero, %d", s, at, got, e, api.ErrRange)
			}
		}
	}
}
