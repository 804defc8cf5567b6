package watch

import (
	"strings"
	"testing"

	"marquee/api"
	"marquee/asm"
	"marquee/bus"
)

// textAt tells what a trace tells of both processors at a place, if these bytes are the program of both.
func textAt(t *testing.T, rom []byte, pc uint16) string {
	t.Helper()
	m, e := bus.New(rom, rom)
	if e != api.OK {
		t.Fatalf("New: %d", e)
	}
	m.Held, m.Main.PC, m.Aux.PC = false, pc, pc
	l, _, e := Trace(m, nil, 1)
	if e != api.OK || len(l) != 2 || l[1].Text != l[0].Text {
		t.Fatalf("at %d: %v, %d", pc, l, e)
	}
	if want := (api.Did{PC: pc, Text: l[0].Text}); l[0] != want {
		t.Errorf("at %d: %v", pc, l[0])
	}
	if want := (api.Did{Aux: true, PC: pc, Text: l[0].Text}); l[1] != want {
		t.Errorf("at %d: %v", pc, l[1])
	}
	return l[0].Text
}

func TestText(t *testing.T) {
	rom := []byte{0x11, 0, 0xd0, 0x10, 0x79, 0x1f, 0xd8, 0, 0x13}
	for pc, want := range map[uint16]string{
		0:      "ldi r1, 53264",
		1:      ".word 208", // words that tell more than their order does
		2:      ".word 53264",
		3:      ".word 4217",
		4:      "addi r1, -1",
		5:      "ld r7, r6, -8",
		6:      "hlt", // and one byte behind it
		7:      ".word 19",
		8:      "?", // one byte alone
		9:      "?",
		10:     "?",
		1023:   "?",
		1024:   "?",
		0x7fff: "?",
		0x8000: "?", // what is done there isn't in the program
		0xc000: "?",
		0xfffe: "?",
		0xffff: "?",
	} {
		if got := textAt(t, rom, pc); got != want {
			t.Errorf("at %d: %q, want %q", pc, got, want)
		}
	}
}

// An order that isn't there whole is a word.
func TestTextOfCutOrders(t *testing.T) {
	for i, c := range []struct {
		rom  []byte
		want string
	}{
		{nil, "?"},
		{[]byte{}, "?"},
		{[]byte{0x11}, "?"},
		{[]byte{0x11, 0}, ".word 4352"},
		{[]byte{0x11, 0, 1}, ".word 4352"},
		{[]byte{0x11, 0, 1, 2}, "ldi r1, 258"},
		{[]byte{0x11, 0, 1, 2, 3}, "ldi r1, 258"},
		{[]byte{0x11, 0, 1, 2, 3, 4}, "ldi r1, 258"},
		{[]byte{0, 0}, "nop"},
		{[]byte{0, 0, 0, 0}, "nop"}, // not both of them
		{[]byte{0, 0, 0x11, 0}, "nop"},
		{[]byte{0xf0, 0, 0, 0}, ".word 61440"}, // no order, read as a trap
		{[]byte{0xf8, 0}, "trap"},
		{[]byte{0xf8, 1}, ".word 63489"},
		{[]byte{0x60, 0x1f}, ".word 24607"}, // a shift by more than is read
		{[]byte{0xff, 0xff}, ".word 65535"},
	} {
		if got := textAt(t, c.rom, 0); got != c.want {
			t.Errorf("%d: % x: %q, want %q", i, c.rom, got, c.want)
		}
	}
}

// The whole of the greatest program, from each place on.
func TestTextOfEachPlace(t *testing.T) {
	next := noise(3)
	words := 0
	for _, size := range []int{api.MaxRom, api.MaxRom - 1} {
		rom := romOf(next, livelyOrder)
		for len(rom) < size {
			rom = append(rom, romOf(next, livelyOrder)...)
		}
		rom = rom[:size]
		for pc := range 1030 {
			got, want := textAt(t, rom, uint16(pc)), modelText(rom, pc)
			if got != want {
				t.Errorf("at %d of %d: %q, want %q", pc, size, got, want)
			}
			if strings.HasPrefix(got, ".word ") {
				words++
			}
		}
	}
	if words < 200 || words > 1800 {
		t.Errorf("%d of them are words", words)
	}
}

// modelText tells the order at a place: one of two words, if these are one line, or else of one.
func modelText(rom []byte, pc int) string {
	if pc+2 > len(rom) {
		return "?"
	}
	if pc+4 <= len(rom) {
		lines, _ := asm.List(rom[pc : pc+4])
		if strings.Count(lines, "\n") == 1 {
			return strings.TrimSuffix(lines, "\n")
		}
	}
	line, _ := asm.List(rom[pc : pc+2])
	return strings.TrimSuffix(line, "\n")
}
