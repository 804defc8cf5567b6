package cpu

import (
	"math/rand"
	"testing"

	"marquee/api"
)

// model is a processor and its space, reckoned by plain numbers, without the program's help.
type model struct {
	r                        [8]int
	pc                       int
	z, n, c, v, may, waiting bool
	rom, ram                 []byte
}

const around = 1 << 16

func (m *model) byteAt(at int) int {
	at = (at%around + around) % around
	switch {
	case at < len(m.rom):
		return int(m.rom[at])
	case at >= 32768 && at < 49152 && len(m.ram) > 0:
		return int(m.ram[(at-32768)%len(m.ram)])
	}
	return 255
}

func (m *model) putByte(at, b int) {
	at = (at%around + around) % around
	if at >= 32768 && at < 49152 && len(m.ram) > 0 {
		m.ram[(at-32768)%len(m.ram)] = byte(b % 256)
	}
}

func (m *model) wordAt(at int) int { return m.byteAt(at)*256 + m.byteAt(at+1) }

func (m *model) putWord(at, n int) {
	m.putByte(at, n/256)
	m.putByte(at+1, n%256)
}

func (m *model) push(n int) {
	m.r[7] = (m.r[7] + around - 2) % around
	m.putWord(m.r[7], n)
}

func (m *model) pop() int {
	n := m.wordAt(m.r[7])
	m.r[7] = (m.r[7] + 2) % around
	return n
}

func (m *model) sign() int {
	n := 0
	for i, is := range []bool{m.z, m.n, m.c, m.v, m.may} {
		if is {
			n += 1 << i
		}
	}
	return n
}

func (m *model) leave(place int) {
	m.push(m.pc)
	m.push(m.sign())
	m.may, m.waiting = false, false
	m.pc = m.wordAt(place)
}

func negative(a int) int {
	if a >= 32768 {
		return a - around
	}
	return a
}

// sum of a and b times by, which is 1 or -1.
func (m *model) sum(a, b, by int) int {
	whole, full := negative(a)+by*negative(b), a+by*b
	m.c = full < 0 || full >= around
	m.v = whole < -32768 || whole > 32767
	return m.told((full + around) % around)
}

func (m *model) told(n int) int {
	m.z, m.n = n == 0, n >= 32768
	return n
}

func (m *model) bits(n int) int {
	m.c, m.v = false, false
	return m.told(n)
}

func (m *model) shifted(a, n int, up bool) int {
	m.c, m.v = false, false
	for range n {
		if up {
			m.c, a = a >= 32768, a*2%around
		} else {
			m.c, a = a%2 == 1, a/2
		}
	}
	return m.told(a)
}

func (m *model) jump(goes bool, to int) int {
	if !goes {
		return 2
	}
	m.pc = to
	return 3
}

// step does one, and tells its cycles.
func (m *model) step(rings bool) int {
	if rings && m.may {
		m.leave(2)
		return 6
	}
	if m.waiting {
		return 1
	}
	first := m.wordAt(m.pc)
	op, d, s, n := first/2048, first/256%8, first/32%8, first%32
	if n > 15 {
		n -= 32
	}
	m.pc = (m.pc + 2) % around
	w := 0
	switch op {
	case 2, 16, 17, 18, 19, 20, 29:
		w = m.wordAt(m.pc)
		m.pc = (m.pc + 2) % around
	}
	return m.do(op, d, s, n, w)
}

func (m *model) do(op, d, s, n, w int) int {
	switch op {
	case 0:
		return 1
	case 1:
		m.r[d] = m.r[s]
		return 1
	case 2:
		m.r[d] = w
		return 2
	case 3:
		m.r[d] = m.wordAt(m.r[s] + n)
		return 3
	case 4:
		m.putWord(m.r[d]+n, m.r[s])
		return 3
	case 5:
		m.r[d] = m.byteAt(m.r[s] + n)
		return 2
	case 6:
		m.putByte(m.r[d]+n, m.r[s])
		return 2
	case 7:
		m.r[d] = m.sum(m.r[d], m.r[s], 1)
		return 1
	case 8:
		m.r[d] = m.sum(m.r[d], m.r[s], -1)
		return 1
	case 9:
		m.r[d] = m.bits(m.r[d] & m.r[s])
		return 1
	case 10:
		m.r[d] = m.bits(m.r[d] | m.r[s])
		return 1
	case 11:
		m.r[d] = m.bits(m.r[d] ^ m.r[s])
		return 1
	case 12, 13:
		m.r[d] = m.shifted(m.r[d], (n+32)%16, op == 12)
		return 1
	case 14:
		m.sum(m.r[d], m.r[s], -1)
		return 1
	case 15:
		m.r[d] = m.sum(m.r[d], (n+around)%around, 1)
		return 1
	case 16:
		return m.jump(true, w)
	case 17:
		return m.jump(m.z, w)
	case 18:
		return m.jump(m.n, w)
	case 19:
		return m.jump(m.c, w)
	case 29:
		return m.jump(!m.z, w)
	case 28:
		product := m.r[d] * m.r[s]
		m.r[d] = m.bits(product % around)
		m.c = product >= around
		return 6
	}
	return m.doStack(op, d, s, w)
}

func (m *model) doStack(op, d, s, w int) int {
	switch op {
	case 20:
		m.push(m.pc)
		m.pc = w
		return 4
	case 21:
		m.pc = m.pop()
		return 4
	case 22:
		m.push(m.r[s])
		return 3
	case 23:
		n := m.pop()
		m.r[d] = n
		return 3
	case 24, 25:
		m.may = op == 24
		return 1
	case 26:
		sign := m.pop()
		m.pc = m.pop()
		m.z, m.n, m.c, m.v, m.may = sign%2 == 1, sign/2%2 == 1, sign/4%2 == 1, sign/8%2 == 1, sign/16%2 == 1
		return 5
	case 27:
		m.waiting = true
		return 1
	}
	m.leave(4)
	return 5
}

func modelOf(c api.Cpu, s api.Space) *model {
	m := &model{pc: int(c.PC), z: c.Z, n: c.N, c: c.C, v: c.V, may: c.May, waiting: c.Waits,
		rom: append([]byte{}, s.Rom...), ram: append([]byte{}, s.Ram...)}
	for i, n := range c.R {
		m.r[i] = int(n)
	}
	return m
}

// both tells the model as the program does.
func (m *model) both() (api.Cpu, api.Space) {
	c := api.Cpu{PC: uint16(m.pc), Z: m.z, N: m.n, C: m.c, V: m.v, May: m.may, Waits: m.waiting}
	for i, n := range m.r {
		c.R[i] = uint16(n)
	}
	return c, api.Space{Rom: m.rom, Ram: m.ram}
}

// anyWord leans to the edges of spaces and numbers.
func anyWord(r *rand.Rand) uint16 {
	edges := []uint16{0, 2, 4, 6, 0x7fff, 0x8000, 0x8001, 0x80ff, 0xbffe, 0xbfff, 0xc000, 0xfffe, 0xffff}
	switch r.Intn(4) {
	case 0:
		return edges[r.Intn(len(edges))] + uint16(r.Intn(5)-2)
	case 1:
		return uint16(r.Intn(40))
	case 2:
		return 0x8000 + uint16(r.Intn(300))
	}
	return uint16(r.Intn(around))
}

func anySpace(r *rand.Rand) api.Space {
	roms, rams := []int{0, 1, 2, 3, 8, 30, 64, 255, 1024}, []int{0, 1, 2, 3, 4, 7, 64, 255, 256}
	s := api.Space{Rom: make([]byte, roms[r.Intn(len(roms))]), Ram: make([]byte, rams[r.Intn(len(rams))])}
	for _, l := range [][]byte{s.Rom, s.Ram} {
		for i := range l {
			l[i] = byte(r.Intn(256))
		}
		// Words that lead somewhere.
		for i := 0; i+1 < len(l) && r.Intn(3) > 0; i += 2 {
			copy(l[i:], bytesOf(anyWord(r)))
		}
	}
	return s
}

func anyCpu(r *rand.Rand) api.Cpu {
	signs := r.Intn(64)
	c := api.Cpu{PC: anyWord(r), Z: signs&1 != 0, N: signs&2 != 0, C: signs&4 != 0, V: signs&8 != 0, May: signs&16 != 0, Waits: signs&32 != 0 && r.Intn(3) == 0}
	for i := range c.R {
		c.R[i] = anyWord(r)
	}
	return c
}

func TestStepsByModel(t *testing.T) {
	r := rand.New(rand.NewSource(4))
	for range 20000 {
		c, s := anyCpu(r), anySpace(r)
		for range 6 {
			rings := r.Intn(4) == 0
			m := modelOf(c, s)
			cycles := m.step(rings)
			want, wantSpace := m.both()
			got, out, n, e := Step(c, s, rings)
			if got != want || !sameSpace(out, wantSpace) || n != cycles || e != api.OK {
				t.Fatalf("Step of %v, %x, %v: %v, %x, %d, %v, want %v, %x, %d", c, s, rings, got, out, n, e, want, wantSpace, cycles)
			}
			c, s = got, out
		}
	}
}

// Each first word, with two second ones, in Ram and so with all that it may write over.
func TestAllWordsByModel(t *testing.T) {
	r := rand.New(rand.NewSource(44))
	for first := range around {
		s := api.Space{Rom: bytesOf(0x8004, 0x8006, 0x8002), Ram: bytesOf(uint16(first), anyWord(r), anyWord(r))}
		c := anyCpu(r)
		c.PC, c.Waits = 0x8000, false
		m := modelOf(c, s)
		cycles := m.step(false)
		want, wantSpace := m.both()
		if got, out, n, e := Step(c, s, false); got != want || !sameSpace(out, wantSpace) || n != cycles || e != api.OK {
			t.Fatalf("Step of %v, %x: %v, %x, %d, %v, want %v, %x, %d", c, s, got, out, n, e, want, wantSpace, cycles)
		}
	}
}

func TestRunsByModel(t *testing.T) {
	r := rand.New(rand.NewSource(444))
	for range 1000 {
		s, steps := anySpace(r), r.Intn(api.MaxSteps+1)
		var rings []int
		rung := map[int]bool{}
		for range r.Intn(60) {
			at := r.Intn(540) - 20
			rings, rung[at] = append(rings, at), true
		}
		m := modelOf(api.Cpu{}, s)
		m.pc = m.wordAt(0)
		cycles := 0
		for i := range steps {
			cycles += m.step(rung[i])
		}
		want, wantSpace := m.both()
		if got, out, n, e := Run(s, steps, rings); got != want || !sameSpace(out, wantSpace) || n != cycles || e != api.OK {
			t.Fatalf("Run of %x, %d, %v: %v, %x, %d, %v, want %v, %x, %d", s, steps, rings, got, out, n, e, want, wantSpace, cycles)
		}
	}
}
