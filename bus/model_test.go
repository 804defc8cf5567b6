package bus

import (
	"bytes"
	"reflect"
	"testing"

	"marquee/api"
	"marquee/tone"
)

// readAt is what the chapter asks of Read, by plain numbers; it changes m.
func readAt(m *api.Machine, aux bool, at int) byte {
	if at >= 0xd000 && at <= 0xdfff {
		if aux {
			return auxPort(m, at%32)
		}
		return mainPort(m, at%32)
	}
	return lies(m, aux, at)
}

// lies tells what lies at a place that is no port's.
func lies(m *api.Machine, aux bool, at int) byte {
	rom, near, far, there := m.MainRom, m.Ram, m.Video, true
	if aux {
		rom, near, far, there = m.AuxRom, m.Own, m.Ram, m.Granted
	}
	switch {
	case at < 0x8000 && at < len(rom):
		return rom[at]
	case at >= 0x8000 && at <= 0xbfff:
		return near[(at-0x8000)%len(near)]
	case at >= 0xc000 && at <= 0xcfff && there:
		return far[(at-0xc000)%len(far)]
	}
	return 255
}

func sum(a, b bool) (n byte) {
	if a {
		n = 1
	}
	if b {
		n += 2
	}
	return n
}

func mainPort(m *api.Machine, p int) byte {
	switch p {
	case 0, 1:
		if m.Pads[p].Latch {
			return m.Pads[p].Down / 128
		}
		bit := m.Pads[p].Shift / 128
		m.Pads[p].Shift = m.Pads[p].Shift*2 + 1
		return bit
	case 4:
		return sum(m.T.On, m.T.Rings)
	case 6:
		return byte(m.B.Line)
	case 7:
		return byte(m.B.At)
	case 8:
		return sum(m.B.Rings, false)
	case 16:
		return sum(m.Granted, m.Held)
	case 17:
		return m.Mail[1]
	}
	return 255
}

func auxPort(m *api.Machine, p int) byte {
	if p != 24 {
		return 255
	}
	m.Rung = false
	return m.Mail[0]
}

// writeAt is what the chapter asks of Write, by plain numbers; it changes m.
func writeAt(m *api.Machine, aux bool, at int, n byte) int {
	switch {
	case at >= 0x8000 && at <= 0xbfff && aux:
		m.Own[(at-0x8000)%64] = n
	case at >= 0x8000 && at <= 0xbfff:
		m.Ram[(at-0x8000)%128] = n
	case at >= 0xc000 && at <= 0xcfff && aux:
		if m.Granted {
			m.Ram[(at-0xc000)%128] = n
		}
	case at >= 0xc000 && at <= 0xcfff:
		m.Video[(at-0xc000)%256] = n
	case at >= 0xd000 && at <= 0xdfff && aux:
		putAuxPort(m, at%32, n)
	case at >= 0xd000 && at <= 0xdfff:
		return putMainPort(m, at%32, n)
	}
	return 0
}

func putAuxPort(m *api.Machine, p int, n byte) {
	if p < 24 {
		m.S, _ = tone.Put(m.S, p, n)
	} else if p == 24 {
		m.Mail[1] = n
	}
}

// putByte writes the high byte of a word at an even number, the low one at an odd one.
func putByte(w *uint16, p int, n byte) {
	if p%2 == 0 {
		*w = uint16(n)*256 + *w%256
	} else {
		*w = *w/256*256 + uint16(n)
	}
}

func putMainPort(m *api.Machine, p int, n byte) int {
	switch p {
	case 0:
		for i := range m.Pads {
			m.Pads[i].Latch = n%2 == 1
			if n%2 == 1 {
				m.Pads[i].Shift = m.Pads[i].Down
			}
		}
	case 2, 3:
		putByte(&m.T.Reload, p, n)
	case 4:
		m.T.On = n%2 == 1
		if m.T.On {
			m.T.Count = m.T.Reload
		}
		if n/2%2 == 1 {
			m.T.Rings = false
		}
	case 8:
		m.B.Rings = false
	case 10, 11:
		putByte(&m.From, p, n)
	case 12, 13:
		putByte(&m.To, p, n)
	case 14:
		for i := range int(n) {
			m.Video[(int(m.To)+i)%256] = lies(m, false, (int(m.From)+i)%65536)
		}
		return 2 * int(n)
	case 16:
		letGo := m.Held && n/2%2 == 0
		m.Granted, m.Held = n%2 == 1, n/2%2 == 1
		if letGo {
			m.Aux = api.Cpu{PC: uint16(lies(m, true, 0))*256 + uint16(lies(m, true, 1))}
			m.AuxReady = m.Clock
		}
	case 17:
		m.Mail[0], m.Rung = n, true
	}
	return 0
}

// noise makes numbers that look like any, the same ones each time.
func noise(seed uint64) func(below int) int {
	return func(below int) int {
		seed = seed*6364136223846793005 + 1442695040888963407
		return int(seed>>33) % below
	}
}

// anyMachine makes a machine that Check allows.
func anyMachine(next func(below int) int) api.Machine {
	list := func(n int) []byte {
		l := make([]byte, n)
		for i := range l {
			l[i] = byte(next(256))
		}
		return l
	}
	one := func() bool { return next(2) == 1 }
	anyCpu := func() (c api.Cpu) {
		for i := range c.R {
			c.R[i] = uint16(next(65536))
		}
		c.PC, c.Z, c.N, c.C, c.V = uint16(next(65536)), one(), one(), one(), one()
		c.May, c.Waits = one(), one()
		return c
	}
	m := api.Machine{
		Main: anyCpu(), Aux: anyCpu(),
		MainRom: list(next(1025)), AuxRom: list(next(8)), Ram: list(128), Own: list(64), Video: list(256),
		T:    api.Timer{Reload: uint16(next(65536)), Count: uint16(next(65536)), On: one(), Rings: one()},
		S:    api.Sound{Wait: next(16)},
		B:    api.Beam{Line: next(10), At: next(64), Rings: one(), Frame: next(20001)},
		From: uint16(next(65536)), To: uint16(next(65536)),
		Granted: one(), Held: one(), Rung: one(),
		Mail:  [2]byte{byte(next(256)), byte(next(256))},
		Clock: next(200001),
	}
	m.MainReady, m.AuxReady = next(m.Clock+20001), next(m.Clock+20001)
	for i := range m.Pads {
		m.Pads[i] = api.Pad{Down: byte(next(256)), Latch: one(), Shift: byte(next(256))}
	}
	for i := range m.S.V {
		m.S.V[i] = api.Voice{Period: uint16(next(65536)), Count: uint16(next(65536)), Loud: byte(next(256)), High: one(), Noise: uint16(next(65536))}
	}
	return m
}

// twin tells a machine like m of its own.
func twin(m api.Machine) api.Machine {
	m.MainRom, m.AuxRom = bytes.Clone(m.MainRom), bytes.Clone(m.AuxRom)
	m.Ram, m.Own, m.Video = bytes.Clone(m.Ram), bytes.Clone(m.Own), bytes.Clone(m.Video)
	return m
}

// plain tells lists without anything in them as nil: either is right.
func plain(m api.Machine) api.Machine {
	for _, l := range []*[]byte{&m.MainRom, &m.AuxRom, &m.Ram, &m.Own, &m.Video} {
		if len(*l) == 0 {
			*l = nil
		}
	}
	return m
}

func sameMachine(a, b api.Machine) bool { return reflect.DeepEqual(plain(a), plain(b)) }

// holdRead reads, and holds it against the model; m is the machine then.
func holdRead(t *testing.T, m *api.Machine, aux bool, at int) {
	t.Helper()
	before := twin(*m)
	n, got, e := Read(*m, aux, uint16(at))
	if !sameMachine(*m, before) {
		t.Fatalf("Read(aux %v, %#x) changed what it was handed", aux, at)
	}
	if want := readAt(m, aux, at); n != want || e != api.OK || !sameMachine(got, *m) {
		t.Fatalf("Read(aux %v, %#x): %#x, %d, want %#x; of %+v\n%+v, want\n%+v", aux, at, n, e, want, before, got, *m)
	}
}

// holdWrite writes, and holds it against the model; m is the machine then.
func holdWrite(t *testing.T, m *api.Machine, aux bool, at int, n byte) {
	t.Helper()
	before := twin(*m)
	got, clocks, e := Write(*m, aux, uint16(at), n)
	if !sameMachine(*m, before) {
		t.Fatalf("Write(aux %v, %#x) changed what it was handed", aux, at)
	}
	if want := writeAt(m, aux, at, n); clocks != want || e != api.OK || !sameMachine(got, *m) {
		t.Fatalf("Write(aux %v, %#x, %#x): %d clocks, %d, want %d; of %+v\n%+v, want\n%+v", aux, at, n, clocks, e, want, before, got, *m)
	}
}

// edges are the places beside which something else lies.
func edges() []int {
	var l []int
	for _, at := range []int{0, 2, 1024, 0x8000, 0x8040, 0x8080, 0xc000, 0xc080, 0xc100, 0xd000, 0xd020, 0xe000, 0x10000} {
		for near := at - 2; near <= at+2; near++ {
			if near >= 0 && near <= 0xffff {
				l = append(l, near)
			}
		}
	}
	return l
}

func TestEdges(t *testing.T) {
	next := noise(1)
	for range 8 {
		m := anyMachine(next)
		places := append(edges(), len(m.MainRom)-1, len(m.MainRom), len(m.AuxRom)-1, len(m.AuxRom))
		for _, at := range places {
			for _, aux := range []bool{false, true} {
				if at >= 0 {
					holdRead(t, &m, aux, at)
					holdWrite(t, &m, aux, at, byte(next(256)))
					holdRead(t, &m, aux, at)
				}
			}
		}
	}
}

// Each byte that is written to each port, of each processor.
func TestEachPortEachByte(t *testing.T) {
	next := noise(2)
	m := anyMachine(next)
	for p := range 32 {
		for n := range 256 {
			for _, aux := range []bool{false, true} {
				if n%16 == 0 {
					m = anyMachine(next)
				}
				at := 0xd000 + p + 32*next(128)
				holdRead(t, &m, aux, at)
				holdWrite(t, &m, aux, at, byte(n))
				holdRead(t, &m, aux, at)
			}
		}
	}
}

// Machines that are come to again and again, as programs do.
func TestLongUse(t *testing.T) {
	next := noise(3)
	for range 20 {
		m := anyMachine(next)
		for range 400 {
			at, aux := next(65536), next(2) == 1
			if next(3) > 0 {
				at = 0xd000 + next(32)
			}
			if next(2) == 0 {
				holdRead(t, &m, aux, at)
			} else {
				holdWrite(t, &m, aux, at, byte(next(256)))
			}
		}
		if e := Check(m); e != api.OK {
			t.Fatalf("a machine that was come to: %d", e)
		}
	}
}

// Every place, by one board: what one of the processors did, the other one finds there.
func TestEachPlace(t *testing.T) {
	next := noise(4)
	for _, granted := range []bool{false, true} {
		m := anyMachine(next)
		m.Granted = granted
		b, e := Open(m)
		if e != api.OK {
			t.Fatal(e)
		}
		for at := range 65536 {
			for _, aux := range []bool{false, true} {
				if n, want := b.reach(aux).Read(uint16(at)), readAt(&m, aux, at); n != want {
					t.Fatalf("aux %v reads %#x at %#x, want %#x", aux, n, at, want)
				}
			}
		}
		if !sameMachine(b.Machine, m) {
			t.Errorf("behind all reads: %+v, want %+v", b.Machine, m)
		}
	}
}
