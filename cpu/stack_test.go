package cpu

import (
	"bytes"
	"testing"

	"marquee/api"
)

// stacked does an order with a stack of four bytes, and holds all that comes of it.
func stacked(t *testing.T, o api.Order, c api.Cpu, ram []byte, want api.Cpu, wantRam []byte, cycles int) {
	t.Helper()
	rom := code(t, o)
	got, out, n := step(t, c, api.Space{Rom: rom, Ram: ram}, false)
	if got != want || n != cycles || !bytes.Equal(out.Ram, wantRam) || !bytes.Equal(out.Rom, rom) {
		t.Errorf("%v of %v: %v, %x, %d, want %v, %x, %d", o, c, got, out.Ram, n, want, wantRam, cycles)
	}
}

func TestPushAndPop(t *testing.T) {
	for _, on := range []bool{false, true} {
		with := func(pc uint16, r [8]uint16) api.Cpu { return allSigns(on, api.Cpu{PC: pc, R: r}) }
		stacked(t, api.Order{Op: api.Push, S: 1}, with(0, [8]uint16{1: 0x1234, 7: 0x8004}), []byte{1, 2, 3, 4},
			with(2, [8]uint16{1: 0x1234, 7: 0x8002}), []byte{1, 2, 0x12, 0x34}, 3)
		stacked(t, api.Order{Op: api.Pop, D: 1}, with(0, [8]uint16{1: 0x1234, 7: 0x8002}), []byte{1, 2, 3, 4},
			with(2, [8]uint16{1: 0x0304, 7: 0x8004}), []byte{1, 2, 3, 4}, 3)
		// The stack's register itself: pushed as it was ahead, popped last.
		stacked(t, api.Order{Op: api.Push, S: 7}, with(0, [8]uint16{7: 0x8004}), []byte{1, 2, 3, 4},
			with(2, [8]uint16{7: 0x8002}), []byte{1, 2, 0x80, 0x04}, 3)
		stacked(t, api.Order{Op: api.Pop, D: 7}, with(0, [8]uint16{7: 0x8001}), []byte{1, 2, 3, 4},
			with(2, [8]uint16{7: 0x0203}), []byte{1, 2, 3, 4}, 3)
		// An odd stack, around Ram's end.
		stacked(t, api.Order{Op: api.Push, S: 1}, with(0, [8]uint16{1: 0x1234, 7: 0x8005}), []byte{1, 2, 3, 4},
			with(2, [8]uint16{1: 0x1234, 7: 0x8003}), []byte{0x34, 2, 3, 0x12}, 3)
		stacked(t, api.Order{Op: api.Call, W: 0x5678}, with(0, [8]uint16{7: 0x8004}), []byte{1, 2, 3, 4},
			with(0x5678, [8]uint16{7: 0x8002}), []byte{1, 2, 0, 4}, 4)
		stacked(t, api.Order{Op: api.Ret}, with(0, [8]uint16{7: 0x8000}), []byte{1, 2, 3, 4},
			with(0x0102, [8]uint16{7: 0x8002}), []byte{1, 2, 3, 4}, 4)
	}
}

// The register 7 goes round, below 0 and above FFFF.
func TestStackGoesRound(t *testing.T) {
	c := api.Cpu{R: [8]uint16{1: 0x1234}}
	stacked(t, api.Order{Op: api.Push, S: 1}, c, []byte{9}, api.Cpu{PC: 2, R: [8]uint16{1: 0x1234, 7: 0xfffe}}, []byte{9}, 3)
	c.R[7] = 1
	stacked(t, api.Order{Op: api.Push, S: 1}, c, []byte{9}, api.Cpu{PC: 2, R: [8]uint16{1: 0x1234, 7: 0xffff}}, []byte{9}, 3)
	c.R[7] = 0xfffe
	stacked(t, api.Order{Op: api.Pop, D: 1}, c, []byte{9}, api.Cpu{PC: 2, R: [8]uint16{1: 0xffff}}, []byte{9}, 3)
	// A word at FFFF has its second byte at 0: pop's own first byte.
	c.R[7] = 0xffff
	stacked(t, api.Order{Op: api.Pop, D: 1}, c, []byte{9}, api.Cpu{PC: 2, R: [8]uint16{1: 0xffb9, 7: 1}}, []byte{9}, 3)
	stacked(t, api.Order{Op: api.Ret}, api.Cpu{R: [8]uint16{7: 0xffff}}, nil, api.Cpu{PC: 0xffa8, R: [8]uint16{7: 1}}, nil, 4)
	stacked(t, api.Order{Op: api.Call, W: 8}, api.Cpu{R: [8]uint16{7: 1}}, nil, api.Cpu{PC: 8, R: [8]uint16{7: 0xffff}}, nil, 4)
	stacked(t, api.Order{Op: api.Rti}, api.Cpu{R: [8]uint16{7: 0xfffd}}, nil, api.Cpu{PC: 0xffd0, R: [8]uint16{7: 1}, Z: true, N: true, C: true, V: true, May: true}, nil, 5)
	// The edges of Ram: half of the word is there.
	c.R[7] = 0x8001
	stacked(t, api.Order{Op: api.Push, S: 1}, c, []byte{9, 8}, api.Cpu{PC: 2, R: [8]uint16{1: 0x1234, 7: 0x7fff}}, []byte{0x34, 8}, 3)
	c.R[7] = 0xc001
	stacked(t, api.Order{Op: api.Push, S: 1}, c, []byte{9, 8}, api.Cpu{PC: 2, R: [8]uint16{1: 0x1234, 7: 0xbfff}}, []byte{9, 0x12}, 3)
}

// A call, a ret and an interruption whose stack lies in no memory.
func TestStackNowhere(t *testing.T) {
	stacked(t, api.Order{Op: api.Call, W: 8}, api.Cpu{R: [8]uint16{7: 0xe000}}, []byte{9}, api.Cpu{PC: 8, R: [8]uint16{7: 0xdffe}}, []byte{9}, 4)
	stacked(t, api.Order{Op: api.Ret}, api.Cpu{R: [8]uint16{7: 0xe000}}, []byte{9}, api.Cpu{PC: 0xffff, R: [8]uint16{7: 0xe002}}, []byte{9}, 4)
	s := api.Space{Rom: []byte{0, 0, 0x12, 0x34}, Ram: []byte{9}}
	c, out, n := step(t, api.Cpu{PC: 6, R: [8]uint16{7: 0x4000}, May: true}, s, true)
	if c != (api.Cpu{PC: 0x1234, R: [8]uint16{7: 0x3ffc}}) || n != 6 || !sameSpace(out, s) {
		t.Errorf("interrupted without a stack: %v, %v, %d", c, out, n)
	}
	// And over its Rom: it stays.
	c, out, n = step(t, api.Cpu{PC: 6, R: [8]uint16{7: 4}, May: true}, s, true)
	if c != (api.Cpu{PC: 0x1234}) || n != 6 || !sameSpace(out, s) {
		t.Errorf("interrupted with a stack over Rom: %v, %v, %d", c, out, n)
	}
}

func TestInterrupted(t *testing.T) {
	rom := append([]byte{0x11, 0x11, 0x12, 0x34, 0x22, 0x22}, code(t, api.Order{Op: api.Addi, N: 1})...)
	s := api.Space{Rom: rom, Ram: []byte{1, 2, 3, 4, 5}}
	for signs := range 16 {
		for _, waits := range []bool{false, true} {
			c := api.Cpu{PC: 0x0876, R: [8]uint16{1, 2, 7: 0x8005}, May: true, Waits: waits}
			c.Z, c.N, c.C, c.V = signs&1 != 0, signs&2 != 0, signs&4 != 0, signs&8 != 0
			want := c
			want.PC, want.R[7], want.May, want.Waits = 0x1234, 0x8001, false, false
			got, out, n := step(t, c, s, true)
			if got != want || n != 6 || !bytes.Equal(out.Ram, []byte{1, 0, byte(16 + signs), 8, 0x76}) || !bytes.Equal(out.Rom, rom) {
				t.Errorf("interrupted: %v, %x, %d, want %v", got, out.Ram, n, want)
			}
		}
	}
	for _, c := range []struct {
		what       string
		may, waits bool
		rings      bool
		pc         uint16
		n          int
	}{
		{"rung while it may not", false, false, true, 8, 1},
		{"rung while it may not, and waits", false, true, true, 6, 1},
		{"not rung, and may", true, false, false, 8, 1},
		{"not rung, and waits", true, true, false, 6, 1},
		{"neither", false, true, false, 6, 1},
	} {
		before := api.Cpu{PC: 6, R: [8]uint16{7: 0x8004}, Z: true, May: c.may, Waits: c.waits}
		want := before
		want.PC = c.pc
		if c.pc == 8 {
			want.R[0], want.Z = 1, false
		}
		got, out, n := step(t, before, s, c.rings)
		if got != want || n != c.n || !sameSpace(out, s) {
			t.Errorf("%s: %v, %v, %d, want %v", c.what, got, out, n, want)
		}
	}
}

// What is pushed is the place behind the order ahead: that of a jump, if it went.
func TestInterruptedBehindAnOrder(t *testing.T) {
	rom := program(t, ".word 6\n.word ring\n.word 0\nldi r7, 32772\nei\njmp on\nnop\non:\nldi r1, 7\nhlt\nring:\nldi r2, 9\nrti\n")
	for _, c := range []struct {
		at  int
		ram []byte
	}{
		{1, []byte{0, 0, 0, 0}},     // it may not yet: ei is done
		{2, []byte{0, 16, 0, 12}},   // behind ei
		{3, []byte{0, 16, 0, 18}},   // behind jmp
		{4, []byte{0, 16, 0, 22}},   // behind ldi
		{5, []byte{0, 16, 0, 24}},   // behind hlt, waiting
		{6, []byte{0, 16, 0, 24}},   // and waiting on
		{250, []byte{0, 16, 0, 24}}, // for long
	} {
		got, out, _ := run(t, api.Space{Rom: rom, Ram: make([]byte, 4)}, c.at+1, c.at)
		if !bytes.Equal(out.Ram, c.ram) || (c.at > 1) != (got.PC == 24) {
			t.Errorf("rung at %d: %v, %x, want %x", c.at, got, out.Ram, c.ram)
		}
	}
	// It goes on behind hlt (with the ldi of ring), not waiting any more.
	got, _, cycles := run(t, api.Space{Rom: rom, Ram: make([]byte, 4)}, 9, 5)
	if got.PC != 28 || got.R[1] != 7 || got.R[2] != 9 || !got.May || got.Waits || got.R[7] != 0x8004 || cycles != 2+1+3+2+1+6+2+5+2 {
		t.Errorf("behind hlt: %v, %d", got, cycles)
	}
}

func TestTrap(t *testing.T) {
	for _, first := range []uint16{0xf800, 0xffff, 0xf000, 0xf7ff, 0xf0a5} {
		for _, may := range []bool{false, true} {
			rom := append(bytesOf(1, 2, 0x4321), bytesOf(first, 0)...)
			c := api.Cpu{PC: 6, R: [8]uint16{7: 0x8004}, N: true, V: true, May: may}
			want := c
			want.PC, want.R[7], want.May = 0x4321, 0x8000, false
			sign := byte(10)
			if may {
				sign += 16
			}
			got, out, n := step(t, c, api.Space{Rom: rom, Ram: make([]byte, 4)}, false)
			if got != want || n != 5 || !bytes.Equal(out.Ram, []byte{0, sign, 0, 8}) {
				t.Errorf("the trap %04x: %v, %x, %d, want %v", first, got, out.Ram, n, want)
			}
		}
	}
	// Interrupted first, the trap is done only behind the return.
	rom := append(bytesOf(1, 0x1234, 0x4321), bytesOf(0xf800)...)
	got, out, n := step(t, api.Cpu{PC: 6, R: [8]uint16{7: 0x8004}, May: true}, api.Space{Rom: rom, Ram: make([]byte, 4)}, true)
	if got.PC != 0x1234 || n != 6 || !bytes.Equal(out.Ram, []byte{0, 16, 0, 6}) {
		t.Errorf("rung at a trap: %v, %x, %d", got, out.Ram, n)
	}
}

// A stack that lies over what is read next.
func TestStackOverOrders(t *testing.T) {
	// A call in Ram pushes over the order that it goes to: there the low byte of its PC stands then.
	ram := append(code(t, api.Order{Op: api.Call, W: 0x8006}), 0, 0, 0, 0)
	got, out, _ := step(t, api.Cpu{PC: 0x8000, R: [8]uint16{7: 0x8008}}, api.Space{Ram: ram}, false)
	if got.PC != 0x8006 || !bytes.Equal(out.Ram[4:], []byte{0, 0, 0x80, 0x04}) {
		t.Errorf("a call over orders: %v, %x", got, out.Ram)
	}
	// 8004 is a jmp: its second word is read over and over, from 8000 on.
	got, _, n := step(t, got, out, false)
	if got.PC != 0xa000 || n != 3 {
		t.Errorf("behind a call over orders: %v, %d", got, n)
	}
	// A push over its own next order: FFFF is a trap.
	ram = append(code(t, api.Order{Op: api.Push, S: 1}), 0, 0)
	got, out, _ = step(t, api.Cpu{PC: 0x8000, R: [8]uint16{1: 0xffff, 7: 0x8004}}, api.Space{Ram: ram}, false)
	got, _, n = step(t, got, out, false)
	if got.PC != 0xffff || n != 5 {
		t.Errorf("a push over orders: %v, %d", got, n)
	}
	// An interruption that writes its Sign over what it goes to: 001F is a nop.
	s := api.Space{Rom: bytesOf(0, 0x8000), Ram: []byte{0xff, 0xff, 0xff, 0xff}}
	got, out, _ = step(t, api.Cpu{PC: 0x8002, R: [8]uint16{7: 0x8004}, Z: true, N: true, C: true, V: true, May: true}, s, true)
	if got.PC != 0x8000 || !bytes.Equal(out.Ram, []byte{0, 31, 0x80, 2}) {
		t.Errorf("interrupted over orders: %v, %x", got, out.Ram)
	}
	got, _, n = step(t, got, out, false)
	if got.PC != 0x8002 || n != 1 {
		t.Errorf("behind an interruption over orders: %v, %d", got, n)
	}
	// PC and Sign pushed over each other, where Ram is one byte, and where it is three.
	c := api.Cpu{PC: 0x1234, R: [8]uint16{7: 0x8004}, C: true, May: true}
	_, out, _ = step(t, c, api.Space{Ram: []byte{9}}, true)
	if !bytes.Equal(out.Ram, []byte{20}) {
		t.Errorf("interrupted with one byte: %x", out.Ram)
	}
	_, out, _ = step(t, c, api.Space{Ram: []byte{9, 9, 9}}, true)
	if !bytes.Equal(out.Ram, []byte{0, 20, 0x12}) {
		t.Errorf("interrupted with three bytes: %x", out.Ram)
	}
}

// An rti behind words that nobody pushed.
func TestRti(t *testing.T) {
	for _, c := range []struct {
		sign uint16
		want string
		may  bool
	}{
		{0, "", false}, {1, "Z", false}, {2, "N", false}, {4, "C", false}, {8, "V", false}, {16, "", true}, {31, "ZNCV", true},
		{21, "ZC", true}, {0xffe0, "", false}, {0xffff, "ZNCV", true}, {0x1000, "", false}, {0x8010, "", true},
	} {
		for _, on := range []bool{false, true} {
			before := allSigns(on, api.Cpu{R: [8]uint16{1: 5, 7: 0x8000}})
			want := signed(api.Cpu{PC: 0xbeef, R: [8]uint16{1: 5, 7: 0x8004}, May: c.may}, c.want)
			ram := bytesOf(c.sign, 0xbeef)
			stacked(t, api.Order{Op: api.Rti}, before, ram, want, ram, 5)
		}
	}
}

// What was pushed is popped, wherever Ram is.
func TestPushedIsPopped(t *testing.T) {
	rom := code(t, api.Order{Op: api.Push, S: 1}, api.Order{Op: api.Pop, D: 2})
	for _, size := range []int{2, 3, 4, 5, 64, 255, 256} {
		for _, top := range []uint16{0x8002, 0x8003, 0x8004, 0x80ff, 0x8100, 0xbfff, 0xc000} {
			for _, value := range []uint16{0, 1, 0x00ff, 0xff00, 0x1234, 0xffff} {
				s := api.Space{Rom: rom, Ram: make([]byte, size)}
				c, s, _ := step(t, api.Cpu{R: [8]uint16{1: value, 7: top}}, s, false)
				c, _, _ = step(t, c, s, false)
				if c.R[2] != value || c.R[7] != top {
					t.Errorf("%x pushed at %x of %d bytes: %v", value, top, size, c)
				}
			}
		}
	}
}

// Who is interrupted and returns goes on as if nothing had been.
func TestGoesOn(t *testing.T) {
	text := ".word 6\n.word ring\n.word 0\nldi r7, 32832\nei\nldi r1, 5\nldi r2, 32768\ngo:\nst r2, r1, 0\npush r2\ncall sub\npop r2\naddi r2, 2\nsub r1, r3\njc end\naddi r1, -1\njnz go\nend:\nmul r2, r2\nshl r2, 3\nloop:\njmp loop\nsub:\nldi r3, 0\ncmp r1, r3\nret\nring:\npush r1\nldi r1, 0\nadd r1, r1\npop r1\nrti\n"
	s := api.Space{Rom: program(t, text), Ram: make([]byte, 64)}
	const steps, handler = 80, 6
	plain, plainOut, plainCycles := run(t, s, steps)
	for at := 2; at < steps; at++ {
		got, out, cycles := run(t, s, steps+handler, at)
		if got != plain || !bytes.Equal(out.Ram[:32], plainOut.Ram[:32]) || cycles != plainCycles+6+3+2+1+3+5 {
			t.Fatalf("interrupted at %d: %v, %x, %d, want %v, %x, %d", at, got, out.Ram, cycles, plain, plainOut.Ram, plainCycles)
		}
	}
}
