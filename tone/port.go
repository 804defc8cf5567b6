package tone

import (
	"marquee/api"
	"marquee/word"
)

const (
	portsOfVoice = 8
	loudest      = 15 // the bits of Loud that count
)

// port tells what becomes of a voice when b is written there.
type port func(v api.Voice, b byte) api.Voice

// Put tells a sound to whose port at a byte was written.
func Put(s api.Sound, at int, b byte) (api.Sound, api.Errno) {
	if at < 0 || at >= len(s.V)*portsOfVoice {
		return api.Sound{}, api.ErrRange
	}
	who := at / portsOfVoice
	s.V[who] = ports()[at%portsOfVoice](s.V[who], b)
	return s, api.OK
}

// ports of a voice stand at their numbers.
func ports() [portsOfVoice]port {
	nothing := func(v api.Voice, _ byte) api.Voice { return v }
	return [portsOfVoice]port{
		func(v api.Voice, b byte) api.Voice { v.Period = withHigh(v.Period, b); return v },
		func(v api.Voice, b byte) api.Voice { v.Period = withLow(v.Period, b); return v },
		func(v api.Voice, b byte) api.Voice { v.Loud = b & loudest; return v },
		func(v api.Voice, b byte) api.Voice { v.Noise = withHigh(v.Noise, b); return v },
		func(v api.Voice, b byte) api.Voice { v.Noise = withLow(v.Noise, b); return v },
		nothing,
		nothing,
		nothing,
	}
}

// withHigh tells a word whose high byte is b.
func withHigh(a uint16, b byte) uint16 {
	_, low := word.Bytes(a)
	return word.Of(b, low)
}

// withLow tells a word whose low byte is b.
func withLow(a uint16, b byte) uint16 {
	high, _ := word.Bytes(a)
	return word.Of(high, b)
}
