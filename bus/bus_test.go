package bus

import (
	"bytes"
	"math"
	"testing"

	"marquee/api"
)

// blank tells a machine that nothing is in.
func blank() api.Machine {
	return api.Machine{Ram: make([]byte, 128), Own: make([]byte, 64), Video: make([]byte, 256)}
}

// with tells a blank machine that something was done to.
func with(do func(m *api.Machine)) api.Machine {
	m := blank()
	do(&m)
	return m
}

// read is one that must be right; m is the machine then.
func read(t *testing.T, m *api.Machine, aux bool, at uint16) byte {
	t.Helper()
	n, out, e := Read(*m, aux, at)
	if e != api.OK {
		t.Fatalf("Read(aux %v, %#x): %d", aux, at, e)
	}
	*m = out
	return n
}

// write is one that must be right; m is the machine then.
func write(t *testing.T, m *api.Machine, aux bool, at uint16, n byte) int {
	t.Helper()
	out, clocks, e := Write(*m, aux, at, n)
	if e != api.OK {
		t.Fatalf("Write(aux %v, %#x, %#x): %d", aux, at, n, e)
	}
	*m = out
	return clocks
}

// rightMachines are at the edges of what may be.
func rightMachines() []api.Machine {
	return []api.Machine{
		blank(),
		with(func(m *api.Machine) { m.MainRom, m.AuxRom = []byte{}, []byte{} }),
		with(func(m *api.Machine) { m.MainRom, m.AuxRom = make([]byte, 1024), make([]byte, 1024) }),
		with(func(m *api.Machine) { m.S.Wait = 15 }),
		with(func(m *api.Machine) { m.B = api.Beam{Line: 9, At: 63, Frame: 20000, Rings: true} }),
		with(func(m *api.Machine) { m.MainReady, m.AuxReady = 20000, 20000 }),
		with(func(m *api.Machine) { m.Clock, m.MainReady, m.AuxReady = 5, 20005, 0 }),
		with(func(m *api.Machine) { m.Clock, m.MainReady, m.AuxReady = 200000, 0, 220000 }),
		with(func(m *api.Machine) { m.S.V[2] = api.Voice{Loud: 255, Count: 9} }),
		with(func(m *api.Machine) { m.Main = api.Cpu{PC: 0xffff, May: true, Waits: true} }),
	}
}

type wrong struct {
	m    api.Machine
	want api.Errno
}

// wrongMachines are beyond the edges, one by one; then the first thing that is wrong is told.
func wrongMachines() []wrong {
	l := []wrong{
		{api.Machine{}, api.ErrForm},
		{with(func(m *api.Machine) { m.MainRom = make([]byte, 1025) }), api.ErrMany},
		{with(func(m *api.Machine) { m.AuxRom = make([]byte, 1025) }), api.ErrMany},
		{with(func(m *api.Machine) { m.MainRom, m.AuxRom = make([]byte, 70000), make([]byte, 70000) }), api.ErrMany},
		{with(func(m *api.Machine) { m.Clock = 200001 }), api.ErrRange},
		{with(func(m *api.Machine) { m.Clock, m.MainReady = 7, 20008 }), api.ErrRange},
		{with(func(m *api.Machine) { m.Clock, m.AuxReady = 7, 20008 }), api.ErrRange},
		{with(func(m *api.Machine) { m.Clock, m.AuxReady = math.MaxInt, math.MinInt }), api.ErrRange},
		{with(func(m *api.Machine) { m.Clock, m.MainReady = math.MaxInt, 3 }), api.ErrRange},
		{with(func(m *api.Machine) { m.AuxRom, m.Ram = make([]byte, 1025), nil }), api.ErrMany},
		{api.Machine{MainRom: make([]byte, 1025), S: api.Sound{Wait: -1}, B: api.Beam{Line: -1}, Clock: -1}, api.ErrMany},
		{with(func(m *api.Machine) { m.Own, m.S.Wait = nil, 16 }), api.ErrForm},
		{with(func(m *api.Machine) { m.Video, m.B.Frame = nil, -1 }), api.ErrForm},
		{with(func(m *api.Machine) { m.Ram, m.Clock = nil, -1 }), api.ErrForm},
	}
	for _, n := range []int{0, 1, 64, 127, 128, 129, 255, 256, 257} {
		for i, size := range []int{128, 64, 256} {
			m := blank()
			*[]*[]byte{&m.Ram, &m.Own, &m.Video}[i] = make([]byte, n)
			if n != size {
				l = append(l, wrong{m, api.ErrForm})
			}
		}
	}
	for _, n := range []int{math.MinInt, -1 << 32, -1, 220001, 1 << 32, math.MaxInt} {
		for i := range 7 {
			m := blank()
			*[]*int{&m.S.Wait, &m.B.Line, &m.B.At, &m.B.Frame, &m.Clock, &m.MainReady, &m.AuxReady}[i] = n
			l = append(l, wrong{m, api.ErrRange})
		}
	}
	for _, set := range []func(m *api.Machine){
		func(m *api.Machine) { m.S.Wait = 16 },
		func(m *api.Machine) { m.B.Line = 10 },
		func(m *api.Machine) { m.B.At = 64 },
		func(m *api.Machine) { m.B.Frame = 20001 },
		func(m *api.Machine) { m.MainReady = 20001 },
		func(m *api.Machine) { m.AuxReady = 20001 },
	} {
		l = append(l, wrong{with(set), api.ErrRange})
	}
	return l
}

func TestRightMachines(t *testing.T) {
	for i, m := range rightMachines() {
		if e := Check(m); e != api.OK {
			t.Errorf("Check of %d: %d", i, e)
		}
		if _, out, e := Read(m, false, 0xe000); e != api.OK || !sameMachine(out, m) {
			t.Errorf("Read of %d: %+v, %d", i, out, e)
		}
		if out, clocks, e := Write(m, true, 0xe000, 1); e != api.OK || clocks != 0 || !sameMachine(out, m) {
			t.Errorf("Write of %d: %+v, %d, %d", i, out, clocks, e)
		}
	}
}

func TestWrongMachines(t *testing.T) {
	for i, c := range wrongMachines() {
		if e := Check(c.m); e != c.want {
			t.Errorf("Check of %d: %d, want %d", i, e, c.want)
		}
		for _, aux := range []bool{false, true} {
			for _, at := range []uint16{0, 0x8000, 0xc000, 0xd000, 0xd00e, 0xd010, 0xffff} {
				if n, out, e := Read(c.m, aux, at); n != 0 || e != c.want || !sameMachine(out, api.Machine{}) {
					t.Errorf("Read of %d at %#x: %#x, %+v, %d, want zero, %d", i, at, n, out, e, c.want)
				}
				if out, clocks, e := Write(c.m, aux, at, 9); clocks != 0 || e != c.want || !sameMachine(out, api.Machine{}) {
					t.Errorf("Write of %d at %#x: %+v, %d, %d, want zero, %d", i, at, out, clocks, e, c.want)
				}
			}
		}
		if b, e := Open(c.m); b != nil || e != c.want {
			t.Errorf("Open of %d: %v, %d", i, b, e)
		}
	}
}

func TestNew(t *testing.T) {
	long := bytes.Repeat([]byte{0x12, 0x34}, 512)
	for _, c := range []struct {
		main, aux []byte
		pc        uint16
	}{
		{nil, nil, 0xffff},
		{[]byte{}, []byte{1, 2}, 0xffff},
		{[]byte{7}, nil, 0x07ff},
		{[]byte{0, 4}, []byte{0, 9}, 4},
		{[]byte{0x80, 1, 5}, long, 0x8001},
		{long, long, 0x1234},
	} {
		want := blank()
		want.MainRom, want.AuxRom, want.Held, want.Main.PC = c.main, c.aux, true, c.pc
		if m, e := New(c.main, c.aux); e != api.OK || !sameMachine(m, want) {
			t.Errorf("New(%x, %x): %+v, %d", c.main, c.aux, m, e)
		} else if e := Check(m); e != api.OK {
			t.Errorf("Check of New(%x, %x): %d", c.main, c.aux, e)
		}
	}
	for _, n := range []int{1025, 1026, 65536} {
		for _, roms := range [][2][]byte{{make([]byte, n), nil}, {nil, make([]byte, n)}, {make([]byte, n), make([]byte, n)}} {
			if m, e := New(roms[0], roms[1]); e != api.ErrMany || !sameMachine(m, api.Machine{}) {
				t.Errorf("New of %d, %d bytes: %+v, %d", len(roms[0]), len(roms[1]), m, e)
			}
		}
	}
}

func TestMemories(t *testing.T) {
	m, _ := New([]byte{1, 2, 3}, []byte{4, 5})
	for _, c := range []struct {
		aux  bool
		at   uint16
		want byte
	}{
		{false, 0, 1}, {false, 2, 3}, {false, 3, 255}, {false, 0x7fff, 255},
		{true, 0, 4}, {true, 1, 5}, {true, 2, 255}, {true, 0x7fff, 255},
		{false, 0x8000, 0}, {false, 0xbfff, 0}, {false, 0xc000, 0}, {false, 0xcfff, 0},
		{true, 0x8000, 0}, {true, 0xbfff, 0}, {true, 0xc000, 255}, {true, 0xcfff, 255},
		{false, 0xe000, 255}, {false, 0xffff, 255}, {true, 0xe000, 255}, {true, 0xffff, 255},
	} {
		if n := read(t, &m, c.aux, c.at); n != c.want {
			t.Errorf("Read(aux %v, %#x): %d, want %d", c.aux, c.at, n, c.want)
		}
	}
	for _, at := range []uint16{0, 2, 3, 0x7fff, 0xe000, 0xffff} {
		before := twin(m)
		write(t, &m, false, at, 9)
		write(t, &m, true, at, 9)
		if !sameMachine(m, before) {
			t.Errorf("a write at %#x changed %+v", at, m)
		}
	}
	write(t, &m, false, 0xbfff, 11)
	write(t, &m, true, 0xbfff, 12)
	write(t, &m, false, 0xcfff, 13)
	if m.Ram[127] != 11 || m.Own[63] != 12 || m.Video[255] != 13 {
		t.Errorf("last bytes: %d, %d, %d", m.Ram[127], m.Own[63], m.Video[255])
	}
}

// spare tells a list with room behind it that must stay as it is.
func spare(l []byte) []byte { return append(bytes.Clone(l), 0xa5, 0x5a, 0xa5)[:len(l)] }

// spoil writes over all lists of a machine, and over their spare room.
func spoil(m api.Machine) {
	for _, l := range [][]byte{m.MainRom, m.AuxRom, m.Ram, m.Own, m.Video} {
		l = l[:cap(l)]
		for i := range l {
			l[i] = 0xee
		}
	}
}

// whole tells a machine's lists with their spare room.
func whole(m api.Machine) (l []byte) {
	for _, one := range [][]byte{m.MainRom, m.AuxRom, m.Ram, m.Own, m.Video} {
		l = append(l, one[:cap(one)]...)
	}
	return l
}

func TestHandedInStays(t *testing.T) {
	m := anyMachine(noise(5))
	m.Granted, m.From, m.To = true, 0xc000, 0x10
	for _, l := range []*[]byte{&m.MainRom, &m.AuxRom, &m.Ram, &m.Own, &m.Video} {
		*l = spare(*l)
	}
	before := whole(m)
	for _, aux := range []bool{false, true} {
		for _, at := range []uint16{0, 0x8003, 0xc003, 0xd000, 0xd00e, 0xd010, 0xd018, 0xf000} {
			_, out, _ := Read(m, aux, at)
			then, _, _ := Write(m, aux, at, 200)
			spoil(out)
			if bytes.Contains(then.Ram, []byte{0xee, 0xee, 0xee, 0xee}) {
				t.Errorf("two answers share memory")
			}
			spoil(then)
			if !bytes.Equal(whole(m), before) {
				t.Fatalf("what was handed in is changed by aux %v at %#x", aux, at)
			}
		}
	}
	main, aux := spare([]byte{1, 2}), spare([]byte{3, 4})
	made, _ := New(main, aux)
	spoil(made)
	if !bytes.Equal(main[:cap(main)], spare([]byte{1, 2})[:cap(main)]) || !bytes.Equal(aux[:cap(aux)], spare([]byte{3, 4})[:cap(aux)]) {
		t.Errorf("New shares memory: %x, %x", main[:cap(main)], aux[:cap(aux)])
	}
}

// Lists that are one when they are handed in aren't any more when they are answered.
func TestSharedLists(t *testing.T) {
	one := make([]byte, 256)
	m := api.Machine{MainRom: one, AuxRom: one, Ram: one[:128], Own: one[:64], Video: one, Granted: true}
	for i, c := range []struct {
		aux bool
		at  uint16
	}{{false, 0x8000}, {false, 0xc000}, {true, 0x8000}, {true, 0xc000}} {
		out, _, e := Write(m, c.aux, c.at, 7)
		firsts := []byte{out.MainRom[0], out.AuxRom[0], out.Ram[0], out.Video[0], out.Own[0]}
		want := make([]byte, 5)
		want[[]int{2, 3, 4, 2}[i]] = 7
		if e != api.OK || !bytes.Equal(firsts, want) || one[0] != 0 {
			t.Errorf("Write(aux %v, %#x): %d, %d", c.aux, c.at, firsts, e)
		}
	}
	both := []byte{1, 2, 3}
	made, _ := New(both, both)
	made.MainRom[0] = 9
	if made.AuxRom[0] != 1 || both[0] != 1 {
		t.Errorf("New of one list twice: %v, %v", made.AuxRom, both)
	}
}
