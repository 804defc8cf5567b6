package cpu

import (
	"bytes"
	"math"
	"slices"
	"testing"

	"marquee/api"
	"marquee/asm"
	"marquee/order"
)

// bytesOf tells words as bytes, the high one first.
func bytesOf(words ...uint16) []byte {
	var l []byte
	for _, w := range words {
		l = append(l, byte(w/256), byte(w%256))
	}
	return l
}

// code tells the bytes of orders.
func code(t *testing.T, orders ...api.Order) []byte {
	t.Helper()
	var l []byte
	for _, o := range orders {
		words, e := order.Words(o)
		if e != api.OK {
			t.Fatalf("Words(%v): %v", o, e)
		}
		l = append(l, bytesOf(words...)...)
	}
	return l
}

// program tells the bytes of a text.
func program(t *testing.T, text string) []byte {
	t.Helper()
	rom, at, e := asm.Build(text)
	if e != api.OK {
		t.Fatalf("line %d of %q: %v", at, text, e)
	}
	return rom
}

// step does one that must be right.
func step(t *testing.T, c api.Cpu, s api.Space, rings bool) (api.Cpu, api.Space, int) {
	t.Helper()
	c, out, cycles, e := Step(c, s, rings)
	if e != api.OK {
		t.Fatalf("Step: %v", e)
	}
	return c, out, cycles
}

// run does one that must be right.
func run(t *testing.T, s api.Space, steps int, rings ...int) (api.Cpu, api.Space, int) {
	t.Helper()
	c, out, cycles, e := Run(s, steps, rings)
	if e != api.OK {
		t.Fatalf("Run: %v", e)
	}
	return c, out, cycles
}

// sameSpace: Lists that have nothing in them may be nil or empty.
func sameSpace(a, b api.Space) bool { return bytes.Equal(a.Rom, b.Rom) && bytes.Equal(a.Ram, b.Ram) }

func TestSign(t *testing.T) {
	for n := range 32 {
		c := api.Cpu{Z: n%2 == 1, N: n/2%2 == 1, C: n/4%2 == 1, V: n/8%2 == 1, May: n/16 == 1}
		if got := Sign(c); int(got) != n {
			t.Errorf("Sign(%v): %d, want %d", c, got, n)
		}
		// Nothing else of a processor is in it.
		c.Waits, c.PC, c.R = true, 0xffff, [8]uint16{1, 2, 3, 4, 5, 6, 7, 8}
		if got := Sign(c); int(got) != n {
			t.Errorf("Sign(%v): %d, want %d", c, got, n)
		}
	}
}

func TestCheck(t *testing.T) {
	for _, c := range []struct {
		rom, ram int
		want     api.Errno
	}{
		{0, 0, api.OK},
		{1, 1, api.OK},
		{1024, 0, api.OK},
		{1024, 256, api.OK},
		{0, 256, api.OK},
		{1025, 0, api.ErrMany},
		{0, 257, api.ErrMany},
		{1025, 257, api.ErrMany},
		{1024, 257, api.ErrMany},
		{1025, 256, api.ErrMany},
		{70000, 0, api.ErrMany},
		{0, 70000, api.ErrMany},
	} {
		s := api.Space{Rom: make([]byte, c.rom), Ram: make([]byte, c.ram)}
		if e := Check(s); e != c.want {
			t.Errorf("Check of %d, %d bytes: %v, want %v", c.rom, c.ram, e, c.want)
		}
		got, out, cycles, e := Step(api.Cpu{PC: 9, May: true}, s, true)
		if e != c.want || e != api.OK && (got != (api.Cpu{}) || out.Rom != nil || out.Ram != nil || cycles != 0) {
			t.Errorf("Step with %d, %d bytes: %v, %v, %d, %v", c.rom, c.ram, got, out, cycles, e)
		}
		got, out, cycles, e = Run(s, 3, []int{1})
		if e != c.want || e != api.OK && (got != (api.Cpu{}) || out.Rom != nil || out.Ram != nil || cycles != 0) {
			t.Errorf("Run with %d, %d bytes: %v, %v, %d, %v", c.rom, c.ram, got, out, cycles, e)
		}
	}
	if e := Check(api.Space{}); e != api.OK {
		t.Errorf("Check of nil lists: %v", e)
	}
}

func TestRunTooFar(t *testing.T) {
	full := api.Space{Rom: make([]byte, 1024), Ram: make([]byte, 256)}
	for _, steps := range []int{math.MinInt, -1 << 32, -500, -1, 501, 502, 1 << 16, 1 << 32, math.MaxInt} {
		c, out, cycles, e := Run(full, steps, []int{0})
		if c != (api.Cpu{}) || out.Rom != nil || out.Ram != nil || cycles != 0 || e != api.ErrRange {
			t.Errorf("Run of %d steps: %v, %v, %d, %v", steps, c, out, cycles, e)
		}
	}
	// What is wrong with the space is told first.
	if _, _, _, e := Run(api.Space{Ram: make([]byte, 257)}, -1, nil); e != api.ErrMany {
		t.Errorf("Run of both wrong: %v", e)
	}
}

func TestRunBegins(t *testing.T) {
	for _, c := range []struct {
		rom  []byte
		want uint16
	}{
		{nil, 0xffff},
		{[]byte{}, 0xffff},
		{[]byte{0x12}, 0x12ff},
		{[]byte{0x12, 0x34}, 0x1234},
		{[]byte{0, 6, 9, 9}, 6},
		{[]byte{0x80, 1, 9, 9}, 0x8001},
	} {
		s := api.Space{Rom: c.rom, Ram: []byte{1, 2, 3}}
		got, out, cycles := run(t, s, 0, 0, 1)
		if got != (api.Cpu{PC: c.want}) || !sameSpace(out, s) || cycles != 0 {
			t.Errorf("Run of no step with %x: %v, %v, %d", c.rom, got, out, cycles)
		}
	}
}

func TestRunToTheEnd(t *testing.T) {
	s := api.Space{Rom: program(t, ".word go\n.word 0\n.word 0\ngo:\naddi r1, 1\njmp go\n")}
	for _, c := range []struct{ steps, adds, cycles int }{{1, 1, 1}, {2, 1, 4}, {3, 2, 5}, {499, 250, 997}, {500, 250, 1000}} {
		got, _, cycles := run(t, s, c.steps)
		if int(got.R[1]) != c.adds || cycles != c.cycles {
			t.Errorf("Run of %d steps: %v, %d", c.steps, got, cycles)
		}
	}
}

// ringing counts in r3 how often it is interrupted, and May always.
const ringing = ".word go\n.word ring\n.word 0\ngo:\nldi r7, 32800\nei\nloop:\njmp loop\nring:\naddi r3, 1\nrti\n"

func TestRings(t *testing.T) {
	s := api.Space{Rom: program(t, ringing), Ram: make([]byte, 64)}
	many := make([]int, 1<<20)
	for i := range many {
		many[i] = i%7 + 10
	}
	for _, c := range []struct {
		rings []int
		steps int
		want  uint16
	}{
		{nil, 30, 0},
		{[]int{}, 30, 0},
		{[]int{5}, 30, 1},
		{[]int{20, 5}, 30, 2},              // unsorted
		{[]int{5, 5, 5}, 30, 1},            // the same
		{[]int{20, 5, 20, 5, 12}, 30, 3},   // both
		{[]int{-1, math.MinInt}, 30, 0},    // ahead of all
		{[]int{30, 31, 500}, 30, 0},        // behind all
		{[]int{501, math.MaxInt}, 500, 0},  // behind whatever may be
		{[]int{-495, 5 - 1<<32}, 30, 0},    // that look like others
		{[]int{505, 5 + 1<<32}, 30, 0},     // likewise
		{[]int{497}, 500, 1},               // near the end
		{[]int{0, 1}, 30, 0},               // it may not yet
		{[]int{5, 6, 7, 8, 9, 10}, 30, 2},  // while it may not: 6 and 7; then 8, not 9 and 10
		{[]int{-1, 5, 30, 999, -7}, 30, 1}, // right and wrong ones
		{many, 30, 3},                      // at 10 to 16: 10, 13, 16
	} {
		rings := slices.Clone(c.rings)
		got, _, _ := run(t, s, c.steps, rings...)
		if got.R[3] != c.want {
			t.Errorf("Run of %d steps, rung at %v: %d times, want %d", c.steps, c.rings[:min(len(c.rings), 9)], got.R[3], c.want)
		}
		if !slices.Equal(rings, c.rings) {
			t.Errorf("Run changed its rings")
		}
	}
	// At the very last step; and behind it.
	for at, want := range map[int]uint16{29: 0x801c, 30: 0x8020} {
		if got, _, _ := run(t, s, 30, at); got.R[7] != want || got.R[3] != 0 {
			t.Errorf("Run of 30 steps, rung at %d: %v", at, got)
		}
	}
	got, _, _ := run(t, s, 500, 499)
	if got.R[7] != 0x801c || got.May {
		t.Errorf("Run rung at its last step: %v", got)
	}
}

// guarded tells a list whose spare room must stay as it is.
func guarded(l []byte) []byte { return append(slices.Clone(l), 0xa5, 0x5a, 0xa5, 0x5a)[:len(l)] }

// A program that writes over its Ram, and tries to over its Rom.
const writing = ".word go\n.word go\n.word go\ngo:\nldi r7, 32773\npush r7\ncall on\non:\nldi r1, 32770\nst r1, r1, 0\nstb r1, r7, 2\nldi r1, 0\nst r1, r7, 0\ntrap\n"

func TestHandedInStays(t *testing.T) {
	rom, ram := guarded(program(t, writing)), guarded([]byte{1, 2, 3, 4, 5})
	s := api.Space{Rom: rom, Ram: ram}
	wholeRom, wholeRam := slices.Clone(rom[:cap(rom)]), slices.Clone(ram[:cap(ram)])
	stays := func(what string) {
		if !bytes.Equal(rom[:cap(rom)], wholeRom) || !bytes.Equal(ram[:cap(ram)], wholeRam) {
			t.Fatalf("%s changed what it was handed", what)
		}
	}
	_, out, _ := run(t, s, 10)
	stays("Run")
	if bytes.Equal(out.Ram, ram) || !bytes.Equal(out.Rom, rom) {
		t.Errorf("Run: %x, %x", out.Rom, out.Ram)
	}
	_, other, _ := run(t, s, 10)
	spoil(out)
	stays("a change of Run's answer")
	if other.Ram[0] == 0xee || other.Rom[0] == 0xee {
		t.Errorf("two answers share memory")
	}
	c := api.Cpu{PC: 6, R: [8]uint16{7: 0x8004}, May: true}
	for _, rings := range []bool{true, false} {
		for range 12 {
			c, out, _ = step(t, c, s, rings)
			spoil(out)
			stays("Step")
		}
	}
}

// spoil writes over all of a space, and over its spare room.
func spoil(s api.Space) {
	for _, l := range [][]byte{s.Rom, s.Ram} {
		l = l[:cap(l)]
		for i := range l {
			l[i] = 0xee
		}
	}
}

// Rom and Ram may be handed in as one list; they aren't one any more then.
func TestSharedLists(t *testing.T) {
	both := code(t, api.Order{Op: api.Stb, D: 1, S: 2})
	s := api.Space{Rom: both, Ram: both}
	_, out, _ := step(t, api.Cpu{R: [8]uint16{1: 0x8000, 2: 0x77}}, s, false)
	if !bytes.Equal(out.Rom, []byte{0x31, 0x40}) || !bytes.Equal(out.Ram, []byte{0x77, 0x40}) || !bytes.Equal(both, out.Rom) {
		t.Errorf("Step with one list: %x, %x, handed in %x", out.Rom, out.Ram, both)
	}
}

// A reach without functions is one where nothing is.
func TestNoReach(t *testing.T) {
	if c := Begin(Reach{}); c != (api.Cpu{PC: 0xffff}) {
		t.Errorf("Begin: %v", c)
	}
	c, cycles := Do(api.Cpu{PC: 8, R: [8]uint16{7: 0x8000}}, Reach{}, false)
	if c != (api.Cpu{PC: 0xffff, R: [8]uint16{7: 0x7ffc}}) || cycles != 5 {
		t.Errorf("Do: %v, %d", c, cycles)
	}
}

// touched keeps which places are come to, and how.
type touched struct {
	places []int
	bytes  map[uint16]byte
}

func (w *touched) read(at uint16) byte {
	w.places = append(w.places, int(at))
	return w.bytes[at]
}

func (w *touched) write(at uint16, b byte) {
	w.places = append(w.places, -int(at))
	w.bytes[at] = b
}

// What is read and written, and in which order: where reading changes something, that is to be seen.
func TestTouched(t *testing.T) {
	for _, c := range []struct {
		o      api.Order
		rings  bool
		places []int
	}{
		{api.Order{Op: api.Nop}, false, []int{0x100, 0x101}},
		{api.Order{Op: api.Ldi, W: 9}, false, []int{0x100, 0x101, 0x102, 0x103}},
		{api.Order{Op: api.Jz, W: 9}, false, []int{0x100, 0x101, 0x102, 0x103}}, // though it doesn't go
		{api.Order{Op: api.Ld, S: 1, N: 3}, false, []int{0x100, 0x101, 0x203, 0x204}},
		{api.Order{Op: api.St, D: 1, N: -2}, false, []int{0x100, 0x101, -0x1fe, -0x1ff}},
		{api.Order{Op: api.Ldb, S: 1, N: 3}, false, []int{0x100, 0x101, 0x203}},
		{api.Order{Op: api.Stb, D: 1, N: 3}, false, []int{0x100, 0x101, -0x203}},
		{api.Order{Op: api.Push}, false, []int{0x100, 0x101, -0x2fe, -0x2ff}},
		{api.Order{Op: api.Pop}, false, []int{0x100, 0x101, 0x300, 0x301}},
		{api.Order{Op: api.Call, W: 9}, false, []int{0x100, 0x101, 0x102, 0x103, -0x2fe, -0x2ff}},
		{api.Order{Op: api.Ret}, false, []int{0x100, 0x101, 0x300, 0x301}},
		{api.Order{Op: api.Rti}, false, []int{0x100, 0x101, 0x300, 0x301, 0x302, 0x303}},
		{api.Order{Op: api.Trap}, false, []int{0x100, 0x101, -0x2fe, -0x2ff, -0x2fc, -0x2fd, 4, 5}},
		{api.Order{Op: api.Trap}, true, []int{-0x2fe, -0x2ff, -0x2fc, -0x2fd, 2, 3}}, // no order is read
	} {
		w := touched{bytes: map[uint16]byte{}}
		for i, b := range code(t, c.o) {
			w.bytes[uint16(0x100+i)] = b
		}
		Do(api.Cpu{PC: 0x100, R: [8]uint16{1: 0x200, 7: 0x300}, May: c.rings}, Reach{w.read, w.write}, c.rings)
		if !slices.Equal(w.places, c.places) {
			t.Errorf("%v: %x, want %x", c.o, w.places, c.places)
		}
	}
}
