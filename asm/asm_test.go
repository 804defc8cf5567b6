package asm

import (
	"bytes"
	"math/rand"
	"slices"
	"strconv"
	"strings"
	"testing"

	"marquee/api"
	"marquee/order"
)

func TestName(t *testing.T) {
	longest := strings.Repeat("a", 12)
	for _, s := range []string{"a", "z", "_", "__", "_1", "a1", "r", "r8", "r9", "r00", "r77", "r0_", "_r0", "rr", "rz", "a_b_9", "nop", "mov", "word", longest, "r" + longest[1:], "_23456789012"} {
		if !Name(s) {
			t.Errorf("Name(%q) is false", s)
		}
	}
	wrong := []string{"", "1", "0a", "9_", "R8", "A", "aZ", "a-b", "a.b", ".word", "a b", " a", "a ", "a:", "a\n", "a\x00", "`", "{", "@", "/", "[", "ä", "\xff", "a\xff", longest + "a", "_234567890123"}
	for i := range 8 {
		wrong = append(wrong, "r"+strconv.Itoa(i))
	}
	for _, s := range wrong {
		if Name(s) {
			t.Errorf("Name(%q) is true", s)
		}
	}
}

// Each byte, as the first one and behind it.
func TestNameByteByByte(t *testing.T) {
	for c := range 256 {
		s := string([]byte{byte(c)})
		inner := strings.Contains("abcdefghijklmnopqrstuvwxyz_0123456789", s)
		first := inner && !strings.Contains("0123456789", s)
		if Name(s) != first || Name(s+"a") != first || Name("a"+s) != inner || Name("a"+s+"a") != inner {
			t.Errorf("byte %d as a Name's: %v, %v, %v, %v", c, Name(s), Name(s+"a"), Name("a"+s), Name("a"+s+"a"))
		}
	}
}

func TestBuild(t *testing.T) {
	for _, c := range []struct {
		text string
		want []byte
	}{
		{"", nil},
		{"a:\n", nil},
		{"nop\n", []byte{0, 0}},
		{"nop \n", []byte{0, 0}}, // a blank, and nothing behind it
		{"trap\nret\nei\ndi\nrti\nhlt\n", []byte{0xf8, 0, 0xa8, 0, 0xc0, 0, 0xc8, 0, 0xd0, 0, 0xd8, 0}},
		{"mov r7, r1\nadd r0, r7\nmul r1, r2\n", []byte{0x0f, 0x20, 0x38, 0xe0, 0xe1, 0x40}},
		{"push r6\npop r6\n", []byte{0xb0, 0xc0, 0xbe, 0}},
		{"ld r1, r2, 15\nstb r7, r7, -16\n", []byte{0x19, 0x4f, 0x37, 0xf0}},
		{"shl r2, 15\nshr r7, 0\naddi r1, -1\naddi r0, 0\n", []byte{0x62, 0x0f, 0x6f, 0, 0x79, 0x1f, 0x78, 0}},
		{"ldi r5, 65535\njmp 4660\n", []byte{0x15, 0, 0xff, 0xff, 0x80, 0, 0x12, 0x34}},
		{".word 0\n.word 65535\n.word 4660\n", []byte{0, 0, 0xff, 0xff, 0x12, 0x34}},
		// Names: behind where they are used, ahead of it, two of one place, as words, called like orders and like what only begins like a register.
		{"jmp end\nnop\nend:\n", []byte{0x80, 0, 0, 6, 0, 0}},
		{"nop\ngo:\njnz go\n", []byte{0, 0, 0xe8, 0, 0, 2}},
		{"nop\na:\nb:\ncall a\njz b\n", []byte{0, 0, 0xa0, 0, 0, 2, 0x88, 0, 0, 2}},
		{".word z\n.word z\nz:\n.word z\n", []byte{0, 4, 0, 4, 0, 4}},
		{"nop\njmp:\nr8:\njmp jmp\nldi r3, r8\n", []byte{0, 0, 0x80, 0, 0, 2, 0x13, 0, 0, 2}},
		{"nop\nword:\n.word word\n", []byte{0, 0, 0, 2}},
	} {
		if got, at, e := Build(c.text); !bytes.Equal(got, c.want) || at != 0 || e != api.OK {
			t.Errorf("Build(%q): %x, %d, %v, want %x", c.text, got, at, e, c.want)
		}
	}
}

// fails holds an error of Build, and that nothing else comes with it.
func fails(t *testing.T, text string, at int, want api.Errno) {
	t.Helper()
	if rom, line, e := Build(text); len(rom) != 0 || line != at || e != want {
		if len(text) > 60 {
			text = text[:60] + " .."
		}
		t.Errorf("Build(%q): %x, %d, %v, want line %d, %v", text, rom, line, e, at, want)
	}
}

// Lines that are wrong in one way, each of them alone and behind others.
func TestLinesThatAreWrong(t *testing.T) {
	for want, lines := range map[api.Errno][]string{
		api.ErrText: {":", "1a:", "r0:", "r7:", "nop a:", " a:", "a :", "a::", "A:", ".word:", "abcdefghijklm:",
			"mov r1, r8", "mov r8, r1", "mov a, r1", "mov 1, r1", "mov R1, r1", "mov r1, ", "mov , r1", "mov  r1, r2", "mov r1,  r2", "mov r1, r2 ", "mov r01, r2", "mov r-1, r2",
			"push 1", "pop r", "ldi r1, r2", "ldi r1, +1", "ldi r1, 0x10", "ldi r1, A", "jmp r0", "jmp -", "jmp 1 ", "jmp  1", "jmp 1a", "jmp 00",
			"addi r1, +1", "addi r1, 01", "addi r1, -0", "addi r1, -01", "addi r1, a", "addi r1, r2", "addi r1, ", "addi r1, 1.0", "addi r1, 1_0", "addi r1, 99999999999999999999", "addi r1, 9223372036854775808",
			"ld r1, r2, a", "ld r1, 2, 3", "shl 1, 1", "shl r1, x",
			".word r1", ".word +1", ".word 01", ".word -0", ".word 1a", ".word  1", ".word 1 ", ".word \t", ".word 99999999999999999999", ".word -9223372036854775809", ".word abcdefghijklm"},
		api.ErrRange: {".word -1", ".word 65536", ".word 9223372036854775807", ".word -9223372036854775808",
			"addi r1, 16", "addi r1, -17", "ld r1, r2, 16", "st r1, r2, -17", "shl r1, -1", "shr r1, 16", "ldi r1, 65536", "ldi r1, -1", "jmp 65536", "jnz -1", "addi r1, 9223372036854775807"},
		api.ErrForm: {".word", ".word ", ".word 1, 2", ".word , ", ".word a, b",
			"nop  ", "nop r1", "ret 0", "mov", "mov ", "mov r1", "mov r1,r2", "mov r1 r2", "mov r1, r2, r3", "mov r1, r2, ", "addi r1,1", "jmp", "jmp ", "jmp 1, 2", "push", "ldi r1", "ld r1, r2", "ld r1, r2, 3, 4", "trap ,"},
		api.ErrWho: {"", " ", "  ", "halt", "NOP", "Nop", "nop,", "\tnop", " nop", "nop\r", "nop\t", ".words 1", ".wor 1", "word 1", ".Word 1", "r1", "mov,r1, r2", "out", "jmp\x00 1", ", ", "1"},
	} {
		for _, line := range lines {
			fails(t, line+"\n", 0, want)
			fails(t, "nop\nb:\n.word 7\n"+line+"\nhalt\n", 3, want)
		}
	}
	fails(t, "b:\nnop\nb:\n", 2, api.ErrTwice)
	fails(t, "b:\nb:\n1a:\n", 1, api.ErrTwice)
	fails(t, "jmp far\n", 0, api.ErrWho)
	fails(t, "nop\n.word far\nfa:\n", 1, api.ErrWho)
}

// Of two errors that apply, the one that is told first.
func TestWhichIsToldFirst(t *testing.T) {
	for _, c := range []struct {
		text string
		at   int
		want api.Errno
	}{
		// In one line.
		{"halt r9", 0, api.ErrText}, // no line feed, and no such order
		{"nop", 0, api.ErrText},
		{"a:", 0, api.ErrText},
		{"a:\na:", 1, api.ErrText},
		{"nop\nmov r1", 1, api.ErrText},
		{"nop\n.word 65536", 1, api.ErrText},
		{"r1:\nr1:\n", 0, api.ErrText},
		{".word r1, 65536\n", 0, api.ErrForm},
		{"halt r9, 99\n", 0, api.ErrWho},
		{"mov r9, 1, 2\n", 0, api.ErrForm},
		{"addi r1, 16, x\n", 0, api.ErrForm},
		{"addi r8, 16\n", 0, api.ErrText},
		{"addi r1, 016\n", 0, api.ErrText},
		{"ldi r8, 65536\n", 0, api.ErrText},
		{"ldi r8, far\n", 0, api.ErrText},
		// In two lines.
		{"addi r1, 16\nhalt\n", 0, api.ErrRange},
		{"halt\naddi r1, 16\n", 0, api.ErrWho},
		{"a:\nmov r1\na:\n", 1, api.ErrForm},
		{"a:\na:\nmov r1\n", 1, api.ErrTwice},
		{"halt\nnop", 0, api.ErrWho},
		// A Name that stands nowhere is told behind all lines.
		{"jmp far\nhalt\n", 1, api.ErrWho},
		{"jmp far\nnop\nmov r1\n", 2, api.ErrForm},
		{"jmp far\nnop", 1, api.ErrText},
		{"jmp far\na:\na:\n", 2, api.ErrTwice},
		{"nop\njmp far\n.word farther\n", 1, api.ErrWho},
		{"a:\njmp a\n.word farther\njmp far\n", 2, api.ErrWho},
	} {
		fails(t, c.text, c.at, c.want)
	}
}

func TestLongTexts(t *testing.T) {
	const line = "ldb r1, r2, -16\n"
	most := strings.Repeat(line, api.MaxText/len(line))
	more := most[len(line):] + "nop\nst r1, r2, 1\n"
	if len(most) != api.MaxText || len(more) != api.MaxText+1 {
		t.Fatalf("the texts have %d, %d bytes", len(most), len(more))
	}
	if rom, at, e := Build(most); len(rom) != 2*api.MaxText/len(line) || at != 0 || e != api.OK {
		t.Errorf("MaxText bytes: %d bytes, %d, %v", len(rom), at, e)
	}
	for _, s := range []string{more, strings.Repeat("\n", api.MaxText+1), strings.Repeat("x", api.MaxText+1)} {
		fails(t, s, 0, api.ErrMany)
	}
	fails(t, "x\n"+strings.Repeat("x", api.MaxText-2), 0, api.ErrWho)
	fails(t, strings.Repeat("x", api.MaxText), 0, api.ErrText)
}

func TestManyLines(t *testing.T) {
	most := strings.Repeat("nop\n", api.MaxLines)
	if rom, at, e := Build(most); len(rom) != 2*api.MaxLines || at != 0 || e != api.OK {
		t.Errorf("MaxLines lines: %d bytes, %d, %v", len(rom), at, e)
	}
	fails(t, most+"nop\n", 0, api.ErrMany)
	fails(t, strings.Repeat("\n", api.MaxLines+1), 0, api.ErrMany)
	// Line feeds are counted, not lines: the last line may be one more, and then it is wrong by itself.
	fails(t, most+"nop", api.MaxLines, api.ErrText)
	fails(t, strings.Repeat("nop\n", api.MaxLines-1)+"jmp far\n", api.MaxLines-1, api.ErrWho)
}

func TestGreatPrograms(t *testing.T) {
	full := strings.Repeat("jmp end\n", api.MaxRom/4)
	rom, at, e := Build(full + "end:\n")
	if len(rom) != api.MaxRom || at != 0 || e != api.OK {
		t.Fatalf("MaxRom bytes: %d, %d, %v", len(rom), at, e)
	}
	if !bytes.Equal(rom, bytes.Repeat([]byte{0x80, 0, 4, 0}, api.MaxRom/4)) {
		t.Errorf("MaxRom bytes: %x", rom)
	}
	lines := api.MaxRom / 4
	fails(t, full+"nop\n", lines, api.ErrMany)
	fails(t, full+"end:\n.word 0\nhalt\n", lines+1, api.ErrMany)
	fails(t, full+"jmp 0\n", lines, api.ErrMany)
	// Whatever else is wrong with the line is told ahead of it, what is wrong with later ones isn't.
	fails(t, full+"addi r1, 16\n", lines, api.ErrRange)
	fails(t, full+".word far\n", lines, api.ErrMany)
	fails(t, full, 0, api.ErrWho)
	// Two bytes are left, and four are asked for.
	nearly := strings.Repeat("jmp 0\n", lines-1) + "nop\n"
	fails(t, nearly+"jmp 0\n", lines, api.ErrMany)
	if rom, _, e := Build(nearly + "nop\n"); len(rom) != api.MaxRom || e != api.OK {
		t.Errorf("the last two bytes: %d, %v", len(rom), e)
	}
}

func TestList(t *testing.T) {
	for _, c := range []struct {
		rom  []byte
		want string
	}{
		{nil, ""},
		{[]byte{}, ""},
		{[]byte{0, 0, 0xf8, 0, 0xa8, 0}, "nop\ntrap\nret\n"},
		{[]byte{0x0f, 0x20, 0xe1, 0x40}, "mov r7, r1\nmul r1, r2\n"},
		{[]byte{0xb0, 0xc0, 0xbe, 0}, "push r6\npop r6\n"},
		{[]byte{0x19, 0x4f, 0x37, 0xf0}, "ld r1, r2, 15\nstb r7, r7, -16\n"},
		{[]byte{0x62, 0x0f, 0x6f, 0, 0x79, 0x1f}, "shl r2, 15\nshr r7, 0\naddi r1, -1\n"},
		{[]byte{0x15, 0, 0xff, 0xff, 0xe8, 0, 0, 0}, "ldi r5, 65535\njnz 0\n"},
		// Words that no order's Words begin with: bits where the order has nothing, an N of a shift that is too great, Op 30.
		{[]byte{0, 1, 0x07, 0xff, 0xf0, 0, 0xf8, 1}, ".word 1\n.word 2047\n.word 61440\n.word 63489\n"},
		{[]byte{0x0f, 0x21, 0x62, 0x1f, 0xb1, 0xc0}, ".word 3873\n.word 25119\n.word 45504\n"},
		// Of what would have had a second word, this is a word by itself.
		{[]byte{0x80, 1, 0, 0, 0x15, 0x20, 0x80, 0}, ".word 32769\nnop\n.word 5408\n.word 32768\n"},
		// An order whose second word isn't there.
		{[]byte{0x15, 0}, ".word 5376\n"},
		{[]byte{0, 0, 0x80, 0}, "nop\n.word 32768\n"},
		{[]byte{0x80, 0, 0x80, 0, 0x80, 0}, "jmp 32768\n.word 32768\n"},
	} {
		if got, e := List(c.rom); got != c.want || e != api.OK {
			t.Errorf("List(%x): %q, %v, want %q", c.rom, got, e, c.want)
		}
	}
}

func TestListOfWrongSizes(t *testing.T) {
	for size := range api.MaxRom + 5 {
		text, e := List(make([]byte, size))
		want, lines := api.OK, size/2
		if size%2 != 0 {
			want, lines = api.ErrForm, 0
		}
		if size > api.MaxRom {
			want, lines = api.ErrMany, 0
		}
		if e != want || text != strings.Repeat("nop\n", lines) {
			t.Errorf("List of %d bytes: %d bytes of text, %v, want %v", size, len(text), e, want)
		}
	}
}

// holdBack holds that Build of List is the program, as far as its text isn't longer than Build takes.
func holdBack(t *testing.T, rom []byte) {
	t.Helper()
	text, e := List(rom)
	if e != api.OK {
		t.Fatalf("List(%x): %v", rom, e)
	}
	back, at, e := Build(text)
	if len(text) > api.MaxText || strings.Count(text, "\n") > api.MaxLines {
		if e != api.ErrMany {
			t.Fatalf("Build of a long List: %d, %v", at, e)
		}
		return
	}
	if !bytes.Equal(back, rom) || at != 0 || e != api.OK {
		t.Fatalf("Build of List(%x): %x, %d, %v, by %q", rom, back, at, e, text)
	}
}

func TestBuildOfListOfEachWord(t *testing.T) {
	for a := range 1 << 16 {
		high, low := byte(a>>8), byte(a)
		holdBack(t, []byte{high, low})
		holdBack(t, []byte{high, low, low, high})
		text, _ := List([]byte{high, low, 0, 9})
		o, size := order.Read(uint16(a), 9)
		words, _ := order.Words(o)
		plain := strings.HasPrefix(text, ".word ")
		if plain != (words[0] != uint16(a)) || !plain && strings.Count(text, "\n") != 3-size {
			t.Fatalf("List of the word %04x: %q", a, text)
		}
	}
}

func TestBuildOfListOfAnyPrograms(t *testing.T) {
	r := rand.New(rand.NewSource(3))
	for range 3000 {
		rom := make([]byte, 2*r.Intn(api.MaxRom/2+1))
		r.Read(rom)
		for i := 0; i < len(rom); i += 2 { // so that more than a few of the words begin an order
			if r.Intn(2) == 0 {
				rom[i+1] &= 0xe0
			}
		}
		holdBack(t, rom)
	}
}

// Whatever is written, Build ends, tells a line of the text, and nothing with an error.
func TestBuildOfAnyTexts(t *testing.T) {
	bits := []string{"nop", "mov", "addi", "ldi", "jmp", ".word", " ", ", ", ":", "\n", "\n", "\n", "r1", "r8", "a", "bc", "1", "-1", "65536", "\x00", "ä", ","}
	r := rand.New(rand.NewSource(4))
	for range 100000 {
		var b strings.Builder
		for range r.Intn(12) {
			b.WriteString(bits[r.Intn(len(bits))])
		}
		text := b.String()
		rom, at, e := Build(text)
		if e == api.OK && at != 0 || e != api.OK && (len(rom) != 0 || at < 0 || at > strings.Count(text, "\n")) {
			t.Fatalf("Build(%q): %x, %d, %v", text, rom, at, e)
		}
		if e == api.OK {
			holdBack(t, rom)
		}
	}
}

func TestOnlyRead(t *testing.T) {
	room := []byte{0x79, 0x1f, 0x80, 0, 0, 4, 0xaa, 0xbb, 0xcc}
	kept := slices.Clone(room)
	if text, e := List(room[:4]); text != "addi r1, -1\n.word 32768\n" || e != api.OK {
		t.Errorf("List beside spare room: %q, %v", text, e)
	}
	if !bytes.Equal(room, kept) {
		t.Errorf("List changed what it was given: %x", room)
	}
	const text = "a:\njmp a\n"
	rom, _, _ := Build(text)
	clear(rom)
	if again, _, e := Build(text); !bytes.Equal(again, []byte{0x80, 0, 0, 0}) || e != api.OK {
		t.Errorf("Build again: %x, %v", again, e)
	}
}
