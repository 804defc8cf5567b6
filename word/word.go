// Package word: words of sixteen bits that go round; see doc/01-word.md.
package word

import "marquee/api"

const (
	width   = 16      // bits of a word
	highest = 1 << 15 // the bit that counts below 0 in a signed number
)

// Add tells the sum, whether it went round as numbers from 0 on, and whether it isn't the sum of both as signed numbers.
func Add(a, b uint16) (uint16, bool, bool) {
	sum := a + b
	// Signed sums fail only when both have the same sign and the sum has the other one.
	over := (a^sum)&(b^sum)&highest != 0
	return sum, sum < a, over
}

// Sub tells the difference, whether it went round as numbers from 0 on, and whether it isn't the difference of both as signed numbers.
func Sub(a, b uint16) (uint16, bool, bool) {
	diff := a - b
	// Signed differences fail only when the signs differ and the difference hasn't a's sign.
	over := (a^b)&(a^diff)&highest != 0
	return diff, a < b, over
}

// Mul tells the product's low word, and whether the high one isn't 0.
func Mul(a, b uint16) (uint16, bool) {
	product := uint32(a) * uint32(b)
	return uint16(product), product>>width != 0
}

// Shl moves a up by n bits, and tells the last bit that went out.
func Shl(a uint16, n int) (uint16, bool, api.Errno) {
	if !mayShift(n) {
		return 0, false, api.ErrRange
	}
	if n == 0 {
		return a, false, api.OK
	}
	return a << n, hasBit(a, width-n), api.OK
}

// Shr moves a down by n bits, and tells the last bit that went out.
func Shr(a uint16, n int) (uint16, bool, api.Errno) {
	if !mayShift(n) {
		return 0, false, api.ErrRange
	}
	if n == 0 {
		return a, false, api.OK
	}
	return a >> n, hasBit(a, n-1), api.OK
}

func mayShift(n int) bool { return 0 <= n && n < width }

func hasBit(a uint16, at int) bool { return a>>at&1 == 1 }

// Signed tells the lowest size bits of a as a signed number.
func Signed(a uint16, size int) (int, api.Errno) {
	if size < 1 || size > width {
		return 0, api.ErrRange
	}
	// Up to the top and down again: the sign comes in from above.
	unused := width - size
	return int(int16(a<<unused) >> unused), api.OK
}

// Bytes tells the high byte of a, and the low one.
func Bytes(a uint16) (byte, byte) { return byte(a >> 8), byte(a) }

// Of makes a word of its bytes: what Bytes told, back.
func Of(high, low byte) uint16 { return uint16(high)<<8 | uint16(low) }
