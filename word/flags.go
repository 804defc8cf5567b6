package word

import "marquee/api"

// reckoner makes a word of two, and tells its carry and over signs.
type reckoner func(a, b uint16) (n uint16, carry, over bool)

// Flags reckons what the order op makes of a and b, with the signs of it.
func Flags(op int, a, b uint16) (n uint16, z, neg, carry, over bool, e api.Errno) {
	reckon, ok := reckoners()[op]
	if !ok {
		return 0, false, false, false, false, api.ErrWho
	}
	n, carry, over = reckon(a, b)
	return n, n == 0, n&highest != 0, carry, over, api.OK
}

// reckoners has one of each order that reckons with two words.
func reckoners() map[int]reckoner {
	return map[int]reckoner{
		api.Add:  Add,
		api.Addi: Add,
		api.Sub:  Sub,
		api.Cmp:  Sub,
		api.And:  bitwise(func(a, b uint16) uint16 { return a & b }),
		api.Or:   bitwise(func(a, b uint16) uint16 { return a | b }),
		api.Xor:  bitwise(func(a, b uint16) uint16 { return a ^ b }),
		api.Mul: func(a, b uint16) (uint16, bool, bool) {
			n, carry := Mul(a, b)
			return n, carry, false
		},
	}
}

// bitwise makes a reckoner of what works bit by bit: such a thing neither carries nor goes over.
func bitwise(bits func(a, b uint16) uint16) reckoner {
	return func(a, b uint16) (uint16, bool, bool) { return bits(a, b), false, false }
}
