package order

import (
	"math"
	"slices"
	"strings"
	"testing"

	"marquee/api"
)

// row is a line of the chapter's table; has: of its letters D, S, N, W.
type row struct {
	op     int
	name   string
	has    string
	cycles int
}

func table() []row {
	return []row{
		{0, "nop", "", 1},
		{1, "mov", "DS", 1},
		{2, "ldi", "DW", 2},
		{3, "ld", "DSN", 3},
		{4, "st", "DSN", 3},
		{5, "ldb", "DSN", 2},
		{6, "stb", "DSN", 2},
		{7, "add", "DS", 1},
		{8, "sub", "DS", 1},
		{9, "and", "DS", 1},
		{10, "or", "DS", 1},
		{11, "xor", "DS", 1},
		{12, "shl", "DN", 1},
		{13, "shr", "DN", 1},
		{14, "cmp", "DS", 1},
		{15, "addi", "DN", 1},
		{16, "jmp", "W", 2},
		{17, "jz", "W", 2},
		{18, "jn", "W", 2},
		{19, "jc", "W", 2},
		{20, "call", "W", 4},
		{21, "ret", "", 4},
		{22, "push", "S", 3},
		{23, "pop", "D", 3},
		{24, "ei", "", 1},
		{25, "di", "", 1},
		{26, "rti", "", 5},
		{27, "hlt", "", 1},
		{28, "mul", "DS", 6},
		{29, "jnz", "W", 2},
		{31, "trap", "", 5},
	}
}

func (r row) words() int {
	if strings.Contains(r.has, "W") {
		return 2
	}
	return 1
}

// bounds tells from where to where a part of the row's orders goes.
func (r row) bounds(part string) (low, high int) {
	if !strings.Contains(r.has, part) {
		return 0, 0
	}
	switch part {
	case "N":
		if r.op == 12 || r.op == 13 {
			return 0, 15
		}
		return -16, 15
	case "W":
		return 0, 0xffff
	}
	return 0, 7
}

// with tells the row's order in which this part alone isn't 0.
func (r row) with(part string, n int) api.Order {
	o := api.Order{Op: r.op}
	switch part {
	case "D":
		o.D = n
	case "S":
		o.S = n
	case "N":
		o.N = n
	case "W":
		o.W = n
	}
	return o
}

// noOps are numbers that are no order's Op.
func noOps() []int {
	return []int{math.MinInt, -1 << 32, -256, -32, -2, -1, 30, 32, 33, 62, 63, 64, 256, 256 + 7, 1<<16 + 7, 1<<32 + 7, math.MaxInt}
}

// some values of a part, around all edges that one may have.
func some() []int {
	return []int{math.MinInt, -1 << 32, -65536, -32768, -33, -32, -31, -18, -17, -16, -15, -9, -8, -7, -2, -1, 0, 1, 2, 6, 7, 8, 9,
		14, 15, 16, 17, 31, 32, 33, 127, 128, 255, 256, 32767, 32768, 65534, 65535, 65536, 65537, 1 << 32, math.MaxInt}
}

func TestTable(t *testing.T) {
	for _, r := range table() {
		if name, e := Name(r.op); name != r.name || e != api.OK {
			t.Errorf("Name(%d): %q, %v, want %q", r.op, name, e, r.name)
		}
		if cycles, words, e := Cycles(r.op); cycles != r.cycles || words != r.words() || e != api.OK {
			t.Errorf("Cycles of %s: %d, %d, %v, want %d, %d", r.name, cycles, words, e, r.cycles, r.words())
		}
	}
}

func TestNoSuchOp(t *testing.T) {
	for _, op := range noOps() {
		if name, e := Name(op); name != "" || e != api.ErrWho {
			t.Errorf("Name(%d): %q, %v", op, name, e)
		}
		if cycles, words, e := Cycles(op); cycles != 0 || words != 0 || e != api.ErrWho {
			t.Errorf("Cycles(%d): %d, %d, %v", op, cycles, words, e)
		}
		// No such Op is told ahead of what else is wrong.
		for _, o := range []api.Order{{Op: op}, {Op: op, D: 8, S: -1, N: 99, W: -1}} {
			if e := Check(o); e != api.ErrWho {
				t.Errorf("Check(%v): %v", o, e)
			}
			if l, e := Words(o); len(l) != 0 || e != api.ErrWho {
				t.Errorf("Words(%v): %v, %v", o, l, e)
			}
		}
	}
}

func TestCheckPartByPart(t *testing.T) {
	for _, r := range table() {
		for _, part := range []string{"D", "S", "N", "W"} {
			low, high := r.bounds(part)
			for _, n := range some() {
				want := api.ErrRange
				if low <= n && n <= high {
					want = api.OK
				}
				o := r.with(part, n)
				if e := Check(o); e != want {
					t.Errorf("Check of %s, %s %d: %v, want %v", r.name, part, n, e, want)
				}
				l, e := Words(o)
				if e != want || want == api.OK && len(l) != r.words() || want != api.OK && len(l) != 0 {
					t.Errorf("Words of %s, %s %d: %v, %v, want %v", r.name, part, n, l, e, want)
				}
			}
		}
	}
}

func TestWordsByHand(t *testing.T) {
	for _, c := range []struct {
		o    api.Order
		want []uint16
	}{
		{api.Order{}, []uint16{0}},
		{api.Order{Op: api.Mov, D: 7, S: 1}, []uint16{0x0f20}},
		{api.Order{Op: api.Mov, D: 1, S: 7}, []uint16{0x09e0}},
		{api.Order{Op: api.Ldi, D: 5, W: 0xffff}, []uint16{0x1500, 0xffff}},
		{api.Order{Op: api.Ldi}, []uint16{0x1000, 0}},
		{api.Order{Op: api.Ld, D: 1, S: 2, N: 15}, []uint16{0x194f}},
		{api.Order{Op: api.Stb, D: 7, S: 7, N: -16}, []uint16{0x37f0}},
		{api.Order{Op: api.Shl, D: 2, N: 15}, []uint16{0x620f}},
		{api.Order{Op: api.Shr, D: 7, N: 1}, []uint16{0x6f01}},
		{api.Order{Op: api.Addi, D: 1, N: -1}, []uint16{0x791f}},
		{api.Order{Op: api.Jmp, W: 0x1234}, []uint16{0x8000, 0x1234}},
		{api.Order{Op: api.Push, S: 6}, []uint16{0xb0c0}},
		{api.Order{Op: api.Pop, D: 6}, []uint16{0xbe00}},
		{api.Order{Op: api.Jnz, W: 8}, []uint16{0xe800, 8}},
		{api.Order{Op: api.Trap}, []uint16{0xf800}},
	} {
		if got, e := Words(c.o); !slices.Equal(got, c.want) || e != api.OK {
			t.Errorf("Words(%v): %04x, %v, want %04x", c.o, got, e, c.want)
		}
	}
}

// readOf tells what the chapter asks of Read, by plain arithmetic.
func readOf(a, b int) (api.Order, int) {
	for _, r := range table() {
		if r.op != a/2048 {
			continue
		}
		o := api.Order{Op: r.op}
		for _, part := range r.has {
			switch part {
			case 'D':
				o.D = a / 256 % 8
			case 'S':
				o.S = a / 32 % 8
			case 'N':
				o.N = a % 32
				if r.op == api.Shl || r.op == api.Shr {
					o.N = a % 16
				} else if o.N > 15 {
					o.N -= 32
				}
			case 'W':
				o.W = b
			}
		}
		return o, r.words()
	}
	return api.Order{Op: api.Trap}, 1
}

func TestReadOfAllWords(t *testing.T) {
	for a := range 1 << 16 {
		for _, b := range []int{0, 1, 0x7fff, 0x8000, 0xbeef, 0xffff} {
			want, words := readOf(a, b)
			if got, n := Read(uint16(a), uint16(b)); got != want || n != words {
				t.Fatalf("Read(%#04x, %#04x): %v, %d, want %v, %d", a, b, got, n, want, words)
			}
		}
	}
}

func TestReadByHand(t *testing.T) {
	for _, c := range []struct {
		a, b  uint16
		want  api.Order
		words int
	}{
		{0x07ff, 9, api.Order{}, 1},
		{0x13ff, 7, api.Order{Op: api.Ldi, D: 3, W: 7}, 2},
		{0x791f, 9, api.Order{Op: api.Addi, D: 1, N: -1}, 1},
		{0x79f0, 9, api.Order{Op: api.Addi, D: 1, N: -16}, 1},
		{0x194f, 9, api.Order{Op: api.Ld, D: 1, S: 2, N: 15}, 1},
		{0x621f, 9, api.Order{Op: api.Shl, D: 2, N: 15}, 1},
		{0x6a10, 9, api.Order{Op: api.Shr, D: 2}, 1},
		{0x87ff, 0xffff, api.Order{Op: api.Jmp, W: 0xffff}, 2},
		{0xf005, 9, api.Order{Op: api.Trap}, 1},
		{0xf7ff, 9, api.Order{Op: api.Trap}, 1},
		{0xffff, 9, api.Order{Op: api.Trap}, 1},
	} {
		if got, words := Read(c.a, c.b); got != c.want || words != c.words {
			t.Errorf("Read(%#04x, %#04x): %v, %d, want %v, %d", c.a, c.b, got, words, c.want, c.words)
		}
	}
}

// orders hands each order to try; of W some values.
func orders(try func(o api.Order)) {
	for _, r := range table() {
		_, highD := r.bounds("D")
		_, highS := r.bounds("S")
		lowN, highN := r.bounds("N")
		_, highW := r.bounds("W")
		for d := range highD + 1 {
			for s := range highS + 1 {
				for n := lowN; n <= highN; n++ {
					for w := 0; w <= highW; w += 0xff {
						try(api.Order{Op: r.op, D: d, S: s, N: n, W: w})
					}
				}
			}
		}
	}
}

func TestReadOfWords(t *testing.T) {
	first := map[uint16]api.Order{}
	orders(func(o api.Order) {
		l, e := Words(o)
		want, _ := readOf(int(l[0]), o.W)
		if e != api.OK || want != o {
			t.Fatalf("Words(%v): %04x, %v", o, l, e)
		}
		second := uint16(0xdead) // of an order of one word, whatever stands behind
		if len(l) == 2 {
			second = l[1]
		}
		if got, n := Read(l[0], second); got != o || n != len(l) {
			t.Fatalf("Read of Words(%v): %v, %d", o, got, n)
		}
		o.W = 0
		if other, ok := first[l[0]]; ok && other != o {
			t.Fatalf("%v and %v have one first word", other, o)
		}
		first[l[0]] = o
	})
}

func TestWordsAreNew(t *testing.T) {
	o := api.Order{Op: api.Ldi, D: 3, W: 0xbeef}
	l, _ := Words(o)
	l[0], l[1] = 0, 0
	if again, e := Words(o); !slices.Equal(again, []uint16{0x1300, 0xbeef}) || e != api.OK {
		t.Errorf("Words again: %04x, %v", again, e)
	}
}
