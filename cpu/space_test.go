package cpu

import (
	"bytes"
	"testing"

	"marquee/api"
)

// loads tells what ld or ldb reads at a place, N away from its register.
func loads(t *testing.T, op int, rom, ram []byte, at uint16, n int) uint16 {
	t.Helper()
	// The order lies where nothing is, laid over the space's own reach: so it stands in nobody's way.
	s := api.Space{Rom: rom, Ram: ram}
	inner, o := reachOf(s), code(t, api.Order{Op: op, D: 2, S: 1, N: n})
	outer := Reach{Read: func(place uint16) byte {
		if place == 0xe000 || place == 0xe001 {
			return o[place-0xe000]
		}
		return inner.Read(place)
	}, Write: inner.Write}
	c, _ := Do(api.Cpu{PC: 0xe000, R: [8]uint16{1: at - uint16(n)}}, outer, false)
	return c.R[2]
}

func TestLoads(t *testing.T) {
	rom := []byte{0x10, 0x11, 0x12, 0x13, 0x14}
	ram := []byte{0xa0, 0xa1, 0xa2}
	full := make([]byte, 256)
	for i := range full {
		full[i] = byte(i)
	}
	whole := bytes.Repeat([]byte{0x5a}, 1024)
	for _, c := range []struct {
		rom, ram []byte
		at       uint16
		word     uint16
	}{
		{rom, ram, 0, 0x1011},
		{rom, ram, 3, 0x1314},
		{rom, ram, 4, 0x14ff}, // Rom's end
		{rom, ram, 5, 0xffff},
		{rom, ram, 0x7ffe, 0xffff},
		{rom, ram, 0x7fff, 0xffa0},
		{rom, ram, 0x8000, 0xa0a1},
		{rom, ram, 0x8001, 0xa1a2},
		{rom, ram, 0x8002, 0xa2a0}, // over and over, of an odd number
		{rom, ram, 0x8003, 0xa0a1},
		{rom, ram, 0xbffe, 0xa2a0}, // 3FFF is 0 modulo 3
		{rom, ram, 0xbfff, 0xa0ff},
		{rom, ram, 0xc000, 0xffff},
		{rom, ram, 0xfffe, 0xffff},
		{rom, ram, 0xffff, 0xff10}, // its second byte at 0
		{nil, ram, 0xffff, 0xffff},
		{nil, ram, 0, 0xffff},
		{rom, nil, 0x7fff, 0xffff},
		{rom, nil, 0x8000, 0xffff},
		{rom, []byte{}, 0xbfff, 0xffff},
		{rom, []byte{0xcc}, 0x8000, 0xcccc},
		{rom, []byte{0xcc}, 0xbfff, 0xccff},
		{rom, full, 0x80ff, 0xff00},
		{rom, full, 0x8100, 0x0001},
		{rom, full, 0xbfff, 0xffff},
		{rom, full, 0xbf12, 0x1213},
		{whole, ram, 1022, 0x5a5a},
		{whole, ram, 1023, 0x5aff},
		{whole, ram, 1024, 0xffff},
	} {
		for _, n := range []int{-16, -1, 0, 1, 15} {
			if got := loads(t, api.Ld, c.rom, c.ram, c.at, n); got != c.word {
				t.Errorf("ld at %04x (%d), %d and %d bytes: %04x, want %04x", c.at, n, len(c.rom), len(c.ram), got, c.word)
			}
			if got := loads(t, api.Ldb, c.rom, c.ram, c.at, n); got != c.word>>8 {
				t.Errorf("ldb at %04x (%d), %d and %d bytes: %04x, want %04x", c.at, n, len(c.rom), len(c.ram), got, c.word>>8)
			}
		}
	}
}

func TestLoadCyclesAndSigns(t *testing.T) {
	for _, on := range []bool{false, true} {
		c := allSigns(on, api.Cpu{R: [8]uint16{1: 2, 2: 0xeeee}})
		want := c
		want.R[2] = 0x1a3e // the order itself
		does(t, api.Order{Op: api.Ld, D: 2, S: 1, N: -2}, c, want, 3)
		want.R[2] = 0x2a
		does(t, api.Order{Op: api.Ldb, D: 2, S: 1, N: -2}, c, want, 2)
		// Into the register by which it reads.
		want.R = [8]uint16{5: 0x1da0}
		does(t, api.Order{Op: api.Ld, D: 5, S: 5, N: 0}, allSigns(on, api.Cpu{}), want, 3)
	}
}

// stores tells what st or stb makes of a Ram; the Rom and the processor must stay.
func stores(t *testing.T, op int, ram []byte, at uint16, n int, value uint16) []byte {
	t.Helper()
	rom := append(code(t, api.Order{Op: op, D: 1, S: 2, N: n}), 0x33, 0x44)
	for _, on := range []bool{false, true} {
		c := allSigns(on, api.Cpu{R: [8]uint16{1: at - uint16(n), 2: value}})
		want := c
		want.PC = 2
		cycles := map[int]int{api.St: 3, api.Stb: 2}[op]
		got, out, m := step(t, c, api.Space{Rom: rom, Ram: ram}, false)
		if got != want || m != cycles || !bytes.Equal(out.Rom, rom) {
			t.Errorf("Op %d at %04x: %v, %d, Rom %x", op, at, got, m, out.Rom)
		}
		if on {
			return out.Ram
		}
	}
	return nil
}

func TestStores(t *testing.T) {
	ram := []byte{0xa0, 0xa1, 0xa2}
	for _, c := range []struct {
		at         uint16
		word, byte []byte
	}{
		{0, ram, ram}, // Rom
		{3, ram, ram},
		{4, ram, ram},
		{0x7ffe, ram, ram},
		{0x7fff, []byte{0x34, 0xa1, 0xa2}, ram},
		{0x8000, []byte{0x12, 0x34, 0xa2}, []byte{0x34, 0xa1, 0xa2}},
		{0x8001, []byte{0xa0, 0x12, 0x34}, []byte{0xa0, 0x34, 0xa2}},
		{0x8002, []byte{0x34, 0xa1, 0x12}, []byte{0xa0, 0xa1, 0x34}},
		{0x8003, []byte{0x12, 0x34, 0xa2}, []byte{0x34, 0xa1, 0xa2}},
		{0xbfff, []byte{0x12, 0xa1, 0xa2}, []byte{0x34, 0xa1, 0xa2}},
		{0xc000, ram, ram},
		{0xd000, ram, ram},
		{0xffff, ram, ram},
	} {
		for _, n := range []int{-16, -1, 0, 1, 15} {
			if got := stores(t, api.St, ram, c.at, n, 0x1234); !bytes.Equal(got, c.word) {
				t.Errorf("st at %04x (%d): %x, want %x", c.at, n, got, c.word)
			}
			if got := stores(t, api.Stb, ram, c.at, n, 0x1234); !bytes.Equal(got, c.byte) {
				t.Errorf("stb at %04x (%d): %x, want %x", c.at, n, got, c.byte)
			}
			if got := stores(t, api.St, nil, c.at, n, 0x1234); len(got) != 0 {
				t.Errorf("st at %04x without Ram: %x", c.at, got)
			}
		}
	}
	// Both bytes at one place: the low one is put last.
	if got := stores(t, api.St, []byte{9}, 0x8000, 0, 0x1234); !bytes.Equal(got, []byte{0x34}) {
		t.Errorf("st into one byte: %x", got)
	}
	full := make([]byte, 256)
	if got := stores(t, api.St, full, 0xbeff, 0, 0x1234); got[255] != 0x12 || got[0] != 0x34 || bytes.Count(got, []byte{0}) != 254 {
		t.Errorf("st around a full Ram: %x", got)
	}
}

// The register that tells where, and the one that tells what, are one.
func TestStoreOfItself(t *testing.T) {
	_, out, _ := step(t, api.Cpu{R: [8]uint16{3: 0x8001}}, api.Space{Rom: code(t, api.Order{Op: api.St, D: 3, S: 3, N: 1}), Ram: make([]byte, 4)}, false)
	if !bytes.Equal(out.Ram, []byte{0, 0, 0x80, 0x01}) {
		t.Errorf("st of itself: %x", out.Ram)
	}
}

// Orders are read by the same places as all else.
func TestOrdersAnywhere(t *testing.T) {
	ldi := code(t, api.Order{Op: api.Ldi, D: 4, W: 0x1234})
	for _, c := range []struct {
		what string
		s    api.Space
		pc   uint16
		want api.Cpu
	}{
		{"in Ram", api.Space{Ram: ldi}, 0x8000, api.Cpu{PC: 0x8004, R: [8]uint16{4: 0x1234}}},
		{"in Ram, over and over", api.Space{Ram: append([]byte{0x12, 0x34}, ldi[:2]...)}, 0xbffa, api.Cpu{PC: 0xbffe, R: [8]uint16{4: 0x1234}}},
		{"at an odd place", api.Space{Rom: append([]byte{9}, ldi...)}, 1, api.Cpu{PC: 5, R: [8]uint16{4: 0x1234}}},
		{"its second word behind Rom's end", api.Space{Rom: ldi[:2]}, 0, api.Cpu{PC: 4, R: [8]uint16{4: 0xffff}}},
		{"half of its second word behind Rom's end", api.Space{Rom: ldi[:3]}, 0, api.Cpu{PC: 4, R: [8]uint16{4: 0x12ff}}},
		{"its second word behind Ram's end", api.Space{Ram: ldi[:2], Rom: ldi}, 0xbffe, api.Cpu{PC: 0xc002, R: [8]uint16{4: 0xffff}}},
	} {
		got, _, n := step(t, api.Cpu{PC: c.pc}, c.s, false)
		if got != c.want || n != 2 {
			t.Errorf("an order %s: %v, %d, want %v", c.what, got, n, c.want)
		}
	}
	// A jump whose second word isn't there goes to FFFF; from there its word's second byte is at 0, and PC goes round.
	got, out, n := step(t, api.Cpu{}, api.Space{Rom: []byte{api.Jmp << 3, 0}}, false)
	if got != (api.Cpu{PC: 0xffff}) || n != 3 {
		t.Errorf("jmp: %v, %d", got, n)
	}
	got, _, n = step(t, got, out, false)
	// FF80 is a trap; at 4 nothing is.
	if want := (api.Cpu{PC: 0xffff, R: [8]uint16{7: 0xfffc}}); got != want || n != 5 {
		t.Errorf("at FFFF: %v, %d, want %v", got, n, want)
	}
	// What the trap at FFFF pushed is the place 1.
	_, out, _ = step(t, api.Cpu{PC: 0xffff, R: [8]uint16{7: 0x8004}}, api.Space{Rom: []byte{0}, Ram: make([]byte, 4)}, false)
	if !bytes.Equal(out.Ram, []byte{0, 0, 0, 1}) {
		t.Errorf("a trap at FFFF: %x", out.Ram)
	}
}
