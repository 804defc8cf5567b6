package word

import (
	"math"
	"testing"

	"marquee/api"
)

// told is what Flags answers.
type told struct {
	n                   uint16
	z, neg, carry, over bool
	e                   api.Errno
}

func flags(op int, a, b uint16) told {
	n, z, neg, carry, over, e := Flags(op, a, b)
	return told{n, z, neg, carry, over, e}
}

// wanted is what the chapter asks of Flags, told order by order.
func wanted(op int, a, b uint16) told {
	var w told
	switch op {
	case api.Add, api.Addi:
		w.n, w.carry, w.over = Add(a, b)
	case api.Sub, api.Cmp:
		w.n, w.carry, w.over = Sub(a, b)
	case api.And:
		w.n = a & b
	case api.Or:
		w.n = a | b
	case api.Xor:
		w.n = a ^ b
	case api.Mul:
		w.n, w.carry = Mul(a, b)
	default:
		return told{e: api.ErrWho}
	}
	w.z, w.neg = w.n == 0, w.n >= 0x8000
	return w
}

func TestFlagsOfAllOps(t *testing.T) {
	for op := -40; op <= 300; op++ {
		for _, a := range edges() {
			for _, b := range edges() {
				if got, want := flags(op, a, b), wanted(op, a, b); got != want {
					t.Errorf("Flags(%d, %#x, %#x): %v, want %v", op, a, b, got, want)
				}
			}
		}
	}
}

func TestFlagsByHand(t *testing.T) {
	for _, c := range []struct {
		op   int
		a, b uint16
		want told
	}{
		{api.Add, 0x7fff, 1, told{n: 0x8000, neg: true, over: true}},
		{api.Add, 0x8000, 0x8000, told{z: true, carry: true, over: true}},
		{api.Addi, 1, 0xffff, told{z: true, carry: true}},
		{api.Sub, 0, 1, told{n: 0xffff, neg: true, carry: true}},
		{api.Sub, 0, 0x8000, told{n: 0x8000, neg: true, carry: true, over: true}},
		{api.Cmp, 0x8000, 1, told{n: 0x7fff, over: true}},
		{api.Cmp, 5, 5, told{z: true}},
		{api.And, 0xff00, 0x0f0f, told{n: 0x0f00}},
		{api.And, 0xff00, 0x00ff, told{z: true}},
		{api.Or, 0xff00, 0x0f0f, told{n: 0xff0f, neg: true}},
		{api.Xor, 0xff00, 0x0f0f, told{n: 0xf00f, neg: true}},
		{api.Mul, 0x0100, 0x0100, told{z: true, carry: true}},
		{api.Mul, 0x00ff, 0x0101, told{n: 0xffff, neg: true}},
		{api.Mul, 0xffff, 0xffff, told{n: 1, carry: true}},
	} {
		if got := flags(c.op, c.a, c.b); got != c.want {
			t.Errorf("Flags(%d, %#x, %#x): %v, want %v", c.op, c.a, c.b, got, c.want)
		}
	}
}

func TestFlagsOfNoSuchOp(t *testing.T) {
	none := told{e: api.ErrWho}
	for _, op := range []int{math.MinInt, -1 << 32, -1, api.Nop, api.Mov, api.Ldi, api.Shl, api.Shr, api.Jnz,
		api.Out, api.Trap, 32, 256 + api.Add, 1<<16 + api.Add, 1<<32 + api.Add, math.MaxInt} {
		if got := flags(op, 0xffff, 0xffff); got != none {
			t.Errorf("Flags(%d): %v", op, got)
		}
	}
}
