package tone

import "marquee/api"

// Check tells whether a sound's next sample is as near as it must be.
func Check(s api.Sound) api.Errno {
	if s.Wait < 0 || s.Wait >= api.SoundTime {
		return api.ErrRange
	}
	return api.OK
}

// Samples tells the samples of n clocks, and the sound behind them.
func Samples(s api.Sound, n int) (l []byte, out api.Sound, e api.Errno) {
	if e := Check(s); e != api.OK {
		return nil, api.Sound{}, e
	}
	if !mayRun(n) {
		return nil, api.Sound{}, api.ErrRange
	}
	for n > 0 {
		if s.Wait == 0 {
			l = append(l, sample(s.V))
			s.Wait = api.SoundTime
		}
		// Up to the next sample at most: in between nobody asks what is High.
		clocks := min(n, s.Wait)
		for i, v := range s.V {
			s.V[i] = later(v, clocks)
		}
		s.Wait -= clocks
		n -= clocks
	}
	return l, s, api.OK
}

// sample tells how loud all voices are together.
func sample(voices [3]api.Voice) byte {
	sum := byte(0)
	for _, v := range voices {
		if v.High {
			sum += v.Loud & loudest
		}
	}
	return sum
}
