package cpu

import (
	"bytes"
	"testing"

	"marquee/api"
)

// regs tells registers whose first ones are these.
func regs(l ...uint16) (r [8]uint16) {
	copy(r[:], l)
	return r
}

// does holds what an order makes of a processor; PC of want is behind the order, where it is 0.
func does(t *testing.T, o api.Order, c, want api.Cpu, cycles int) {
	t.Helper()
	rom := code(t, o)
	if want.PC == 0 {
		want.PC = uint16(len(rom))
	}
	got, out, n := step(t, c, api.Space{Rom: rom}, false)
	if got != want || n != cycles || !bytes.Equal(out.Rom, rom) || len(out.Ram) != 0 {
		t.Errorf("%v of %v: %v, %v, %d cycles, want %v, %d", o, c, got, out, n, want, cycles)
	}
}

// allSigns: what leaves them alone must leave each of them.
func allSigns(on bool, c api.Cpu) api.Cpu {
	c.Z, c.N, c.C, c.V, c.May = on, on, on, on, on
	return c
}

func TestPlainOrders(t *testing.T) {
	r := regs(1, 2, 3, 4, 5, 6, 7, 8)
	for _, on := range []bool{false, true} {
		c := allSigns(on, api.Cpu{R: r})
		does(t, api.Order{Op: api.Nop}, c, c, 1)
		want := c
		want.R = regs(1, 2, 3, 4, 5, 6, 2, 8)
		does(t, api.Order{Op: api.Mov, D: 6, S: 1}, c, want, 1)
		want.R = regs(1, 2, 3, 4, 5, 6, 7, 1)
		does(t, api.Order{Op: api.Mov, D: 7, S: 0}, c, want, 1)
		does(t, api.Order{Op: api.Mov, D: 3, S: 3}, c, c, 1)
		want.R = regs(1, 2, 3, 0xfedc, 5, 6, 7, 8)
		does(t, api.Order{Op: api.Ldi, D: 3, W: 0xfedc}, c, want, 2)
		want.R = regs(0, 2, 3, 4, 5, 6, 7, 8)
		does(t, api.Order{Op: api.Ldi}, c, want, 2)
		want = c
		want.May = true
		does(t, api.Order{Op: api.Ei}, c, want, 1)
		want.May = false
		does(t, api.Order{Op: api.Di}, c, want, 1)
		want = c
		want.Waits = true
		does(t, api.Order{Op: api.Hlt}, c, want, 1)
	}
}

func TestReckoning(t *testing.T) {
	for _, c := range []struct {
		op      int
		a, b, n uint16
		signs   string
		cycles  int
	}{
		{api.Add, 2, 3, 5, "", 1},
		{api.Add, 0x7fff, 1, 0x8000, "NV", 1},
		{api.Add, 0x8000, 0x8000, 0, "ZCV", 1},
		{api.Add, 0xffff, 1, 0, "ZC", 1},
		{api.Sub, 5, 3, 2, "", 1},
		{api.Sub, 3, 5, 0xfffe, "NC", 1},
		{api.Sub, 0x8000, 1, 0x7fff, "V", 1},
		{api.Sub, 7, 7, 0, "Z", 1},
		{api.And, 0xff00, 0x8f0f, 0x8f00, "N", 1},
		{api.And, 0xff00, 0x00ff, 0, "Z", 1},
		{api.Or, 0x00f0, 0x8001, 0x80f1, "N", 1},
		{api.Or, 0, 0, 0, "Z", 1},
		{api.Xor, 0x0ff0, 0x00ff, 0x0f0f, "", 1},
		{api.Xor, 0x1234, 0x1234, 0, "Z", 1},
		{api.Mul, 7, 6, 42, "", 6},
		{api.Mul, 0x100, 0x100, 0, "ZC", 6},
		{api.Mul, 0x00ff, 0x0101, 0xffff, "N", 6},
		{api.Cmp, 7, 7, 7, "Z", 1},
		{api.Cmp, 3, 5, 3, "NC", 1},
		{api.Cmp, 0x8000, 1, 0x8000, "V", 1},
		{api.Cmp, 9, 1, 9, "", 1},
	} {
		// Whatever the signs were, they are by this order.
		for _, on := range []bool{false, true} {
			before := allSigns(on, api.Cpu{R: regs(1, 1, c.a, 1, 1, c.b, 1, 1)})
			want := signed(before, c.signs)
			want.R[2] = c.n
			does(t, api.Order{Op: c.op, D: 2, S: 5}, before, want, c.cycles)
		}
	}
	// D and S are the same one.
	does(t, api.Order{Op: api.Add, D: 7, S: 7}, api.Cpu{R: [8]uint16{7: 0x8001}}, signed(api.Cpu{R: [8]uint16{7: 2}}, "CV"), 1)
	does(t, api.Order{Op: api.Sub, D: 4, S: 4}, api.Cpu{R: [8]uint16{4: 0x8001}}, signed(api.Cpu{}, "Z"), 1)
}

// signed tells a processor with just these signs; May stays.
func signed(c api.Cpu, signs string) api.Cpu {
	c.Z, c.N, c.C, c.V = false, false, false, false
	for _, s := range signs {
		switch s {
		case 'Z':
			c.Z = true
		case 'N':
			c.N = true
		case 'C':
			c.C = true
		case 'V':
			c.V = true
		}
	}
	return c
}

func TestSmallNumbersAndShifts(t *testing.T) {
	for _, c := range []struct {
		op    int
		a     uint16
		n     int
		want  uint16
		signs string
	}{
		{api.Addi, 5, 3, 8, ""},
		{api.Addi, 5, 0, 5, ""},
		{api.Addi, 0, 0, 0, "Z"},
		{api.Addi, 5, -5, 0, "ZC"},
		{api.Addi, 5, -6, 0xffff, "N"},
		{api.Addi, 0, -1, 0xffff, "N"},
		{api.Addi, 0x7fff, 15, 0x800e, "NV"},
		{api.Addi, 0x8000, -16, 0x7ff0, "CV"},
		{api.Addi, 0xffff, 1, 0, "ZC"},
		{api.Shl, 0x8001, 0, 0x8001, "N"},
		{api.Shl, 0, 0, 0, "Z"},
		{api.Shl, 0xc001, 1, 0x8002, "NC"},
		{api.Shl, 0x8000, 1, 0, "ZC"},
		{api.Shl, 0x4000, 1, 0x8000, "N"},
		{api.Shl, 3, 15, 0x8000, "NC"},
		{api.Shl, 2, 15, 0, "ZC"},
		{api.Shr, 0x8001, 0, 0x8001, "N"},
		{api.Shr, 0x8001, 1, 0x4000, "C"},
		{api.Shr, 1, 1, 0, "ZC"},
		{api.Shr, 0xfffe, 15, 1, "C"},
		{api.Shr, 0x3fff, 15, 0, "Z"},
		{api.Shr, 0x0010, 4, 1, ""},
	} {
		for _, on := range []bool{false, true} {
			before := allSigns(on, api.Cpu{R: [8]uint16{1: 9, 6: c.a}})
			want := signed(before, c.signs)
			want.R[6] = c.want
			does(t, api.Order{Op: c.op, D: 6, N: c.n}, before, want, 1)
		}
	}
}

// A shift's highest bit of N is none of its number.
func TestShiftBitFive(t *testing.T) {
	got, _, n := step(t, api.Cpu{R: regs(0x8001)}, api.Space{Rom: []byte{api.Shl << 3, 0xf1}}, false)
	if want := (api.Cpu{R: regs(2), PC: 2, C: true}); got != want || n != 1 {
		t.Errorf("shl by 17: %v, %d", got, n)
	}
}

func TestJumps(t *testing.T) {
	for signs := range 32 {
		c := api.Cpu{Z: signs&1 != 0, N: signs&2 != 0, C: signs&4 != 0, V: signs&8 != 0, May: signs&16 != 0, R: regs(3, 1, 4, 1, 5)}
		for _, j := range []struct {
			op   int
			goes bool
		}{{api.Jmp, true}, {api.Jz, c.Z}, {api.Jnz, !c.Z}, {api.Jn, c.N}, {api.Jc, c.C}} {
			want, cycles := c, 2
			if j.goes {
				want.PC, cycles = 0xbeef, 3
			}
			does(t, api.Order{Op: j.op, W: 0xbeef}, c, want, cycles)
		}
	}
	// To itself, and to just behind: it goes all the same, and takes as long.
	got, _, n := step(t, api.Cpu{}, api.Space{Rom: code(t, api.Order{Op: api.Jmp})}, false)
	if got != (api.Cpu{}) || n != 3 {
		t.Errorf("jmp 0: %v, %d", got, n)
	}
	does(t, api.Order{Op: api.Jnz, W: 4}, api.Cpu{}, api.Cpu{PC: 4}, 3)
}

// What a whole program makes of an order that jumps back.
func TestLoop(t *testing.T) {
	rom := program(t, ".word 6\n.word 0\n.word 0\nldi r1, 3\nldi r2, 1\ngo:\nmul r2, r1\naddi r1, -1\njnz go\nhlt\n")
	c, _, cycles := run(t, api.Space{Rom: rom}, 14)
	if c.R[1] != 0 || c.R[2] != 6 || !c.Waits || cycles != 2+2+3*(6+1)+3+3+2+1+2 {
		t.Errorf("a loop: %v, %d", c, cycles)
	}
}
