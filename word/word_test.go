package word

import (
	"math"
	"testing"

	"marquee/api"
)

// edges are words around 0, the highest bit, the bytes' border and the end, and some in between.
func edges() []uint16 {
	return []uint16{0, 1, 2, 3, 0x000f, 0x0010, 0x00ff, 0x0100, 0x0101, 0x1234, 0x5555, 0x7ffe, 0x7fff,
		0x8000, 0x8001, 0xaaaa, 0xc001, 0xfedc, 0xff00, 0xff7f, 0xfffe, 0xffff}
}

// pairs hands each edge with each word to try, in both orders.
func pairs(try func(a, b uint16)) {
	for _, a := range edges() {
		for b := range 1 << 16 {
			try(a, uint16(b))
			try(uint16(b), a)
		}
	}
}

// wrongSizes are numbers outside 0 to 16.
func wrongSizes() []int {
	return []int{math.MinInt, math.MinInt + 1, -1 << 32, -65536, -17, -16, -15, -1,
		17, 32, 64, 65536, 1 << 32, math.MaxInt - 1, math.MaxInt}
}

// asSigned reads a word as a signed number, without the program's help.
func asSigned(a uint16) int {
	if a >= 0x8000 {
		return int(a) - 0x10000
	}
	return int(a)
}

func isSigned(n int) bool { return n >= -0x8000 && n <= 0x7fff }

func TestAdd(t *testing.T) {
	pairs(func(a, b uint16) {
		n, carry, over := Add(a, b)
		sum := int(a) + int(b)
		if n != uint16(sum%0x10000) || carry != (sum > 0xffff) || over != !isSigned(asSigned(a)+asSigned(b)) {
			t.Fatalf("Add(%#x, %#x): %#x, %v, %v", a, b, n, carry, over)
		}
	})
}

func TestSub(t *testing.T) {
	pairs(func(a, b uint16) {
		n, carry, over := Sub(a, b)
		diff := int(a) - int(b)
		if n != uint16((diff+0x10000)%0x10000) || carry != (diff < 0) || over != !isSigned(asSigned(a)-asSigned(b)) {
			t.Fatalf("Sub(%#x, %#x): %#x, %v, %v", a, b, n, carry, over)
		}
	})
}

func TestMul(t *testing.T) {
	pairs(func(a, b uint16) {
		n, high := Mul(a, b)
		product := int64(a) * int64(b)
		if int64(n) != product%0x10000 || high != (product >= 0x10000) {
			t.Fatalf("Mul(%#x, %#x): %#x, %v", a, b, n, high)
		}
	})
}

func TestShifts(t *testing.T) {
	for a := range 1 << 16 {
		up, down := a, a
		upOut, downOut := false, false
		for n := range 16 {
			if got, out, e := Shl(uint16(a), n); int(got) != up || out != upOut || e != api.OK {
				t.Fatalf("Shl(%#x, %d): %#x, %v, %v", a, n, got, out, e)
			}
			if got, out, e := Shr(uint16(a), n); int(got) != down || out != downOut || e != api.OK {
				t.Fatalf("Shr(%#x, %d): %#x, %v, %v", a, n, got, out, e)
			}
			upOut, downOut = up >= 0x8000, down%2 == 1
			up, down = up*2%0x10000, down/2
		}
	}
}

func TestShiftsTooFar(t *testing.T) {
	for _, n := range append(wrongSizes(), 16) {
		for _, a := range edges() {
			if got, out, e := Shl(a, n); got != 0 || out || e != api.ErrRange {
				t.Errorf("Shl(%#x, %d): %#x, %v, %v", a, n, got, out, e)
			}
			if got, out, e := Shr(a, n); got != 0 || out || e != api.ErrRange {
				t.Errorf("Shr(%#x, %d): %#x, %v, %v", a, n, got, out, e)
			}
		}
	}
}

func TestSigned(t *testing.T) {
	for a := range 1 << 16 {
		for size := 1; size <= 16; size++ {
			all := 1 << size
			want := a % all
			if want >= all/2 {
				want -= all
			}
			if got, e := Signed(uint16(a), size); got != want || e != api.OK {
				t.Fatalf("Signed(%#x, %d): %d, %v, want %d", a, size, got, e, want)
			}
		}
	}
}

func TestSignedOfNoSize(t *testing.T) {
	for _, size := range append(wrongSizes(), 0) {
		for _, a := range edges() {
			if got, e := Signed(a, size); got != 0 || e != api.ErrRange {
				t.Errorf("Signed(%#x, %d): %d, %v", a, size, got, e)
			}
		}
	}
}

func TestBytes(t *testing.T) {
	for a := range 1 << 16 {
		high, low := Bytes(uint16(a))
		if int(high) != a/256 || int(low) != a%256 {
			t.Fatalf("Bytes(%#x): %#x, %#x", a, high, low)
		}
		if back := Of(high, low); int(back) != a {
			t.Fatalf("Of(%#x, %#x): %#x", high, low, back)
		}
	}
}
