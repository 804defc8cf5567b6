package cpu

import (
	"marquee/api"
	"marquee/word"
)

// Where a space's Ram lies, over and over; ahead of it the Rom.
const (
	ramFrom = 0x8000
	ramTo   = 0xbfff
)

// nothing is what a place reads as where nothing is.
const nothing = 0xff

// Reach is how a processor comes to bytes. Where a function is nil, nothing is there.
type Reach struct {
	Read  func(at uint16) byte
	Write func(at uint16, b byte)
}

// reachOf makes a space's reach; what is written goes into the space's own Ram.
func reachOf(s api.Space) Reach {
	return Reach{
		Read: func(at uint16) byte {
			if at < ramFrom && int(at) < len(s.Rom) {
				return s.Rom[at]
			}
			if hasRam(s, at) {
				return s.Ram[ramIndex(s, at)]
			}
			return nothing
		},
		Write: func(at uint16, b byte) {
			if hasRam(s, at) {
				s.Ram[ramIndex(s, at)] = b
			}
		},
	}
}

// hasRam tells whether a byte of Ram is at this place.
func hasRam(s api.Space, at uint16) bool {
	return ramFrom <= at && at <= ramTo && len(s.Ram) > 0
}

// ramIndex tells which byte of Ram is at a place that hasRam.
func ramIndex(s api.Space, at uint16) int { return int(at-ramFrom) % len(s.Ram) }

func (r Reach) byteAt(at uint16) byte {
	if r.Read == nil {
		return nothing
	}
	return r.Read(at)
}

func (r Reach) putByte(at uint16, b byte) {
	if r.Write != nil {
		r.Write(at, b)
	}
}

// wordAt reads the high byte first: where reading changes something, that is to be seen.
func (r Reach) wordAt(at uint16) uint16 {
	high := r.byteAt(at)
	low := r.byteAt(at + 1)
	return word.Of(high, low)
}

// putWord writes the high byte first: where both places are the same byte, the low one stays.
func (r Reach) putWord(at, n uint16) {
	high, low := word.Bytes(n)
	r.putByte(at, high)
	r.putByte(at+1, low)
}
