package lock

import (
	"bytes"
	"reflect"
	"slices"
	"testing"

	"marquee/api"
	"marquee/bus"
	"marquee/cpu"
	"marquee/order"
	"marquee/picture"
	"marquee/timer"
	"marquee/tone"
)

// reach comes to bytes by the bus alone; *m is the machine then. Clocks of transfers and bytes that are written are told to those who ask.
func reach(m *api.Machine, aux bool, taken func(int), wrote func(uint16, byte)) cpu.Reach {
	return cpu.Reach{
		Read: func(at uint16) byte {
			n, out, _ := bus.Read(*m, aux, at)
			*m = out
			return n
		},
		Write: func(at uint16, n byte) {
			out, clocks, _ := bus.Write(*m, aux, at, n)
			*m = out
			taken(clocks)
			wrote(at, n)
		},
	}
}

// modelSteps are those of both processors at one clock.
func modelSteps(m *api.Machine, s *api.Shown) {
	if m.Clock >= m.MainReady {
		all := 0
		c, cycles := cpu.Do(m.Main, reach(m, false, func(n int) { all += n }, func(uint16, byte) {}), m.T.Rings || m.B.Rings)
		m.Main, m.MainReady = c, m.Clock+3*cycles+all
	}
	if m.Clock >= m.AuxReady && !m.Held {
		wrote := func(at uint16, n byte) {
			if at >= 0xd000 && at <= 0xdfff && at%32 < 24 {
				s.Writes = append(s.Writes, api.Write{Clock: m.Clock, At: int(at % 32), Value: n})
			}
		}
		c, cycles := cpu.Do(m.Aux, reach(m, true, func(int) {}, wrote), m.Rung)
		m.Aux, m.AuxReady = c, m.Clock+5*cycles
	}
}

// modelBeam is one clock as chapter 9 tells it.
func modelBeam(b *api.Beam) {
	b.At++
	if b.At < 64 {
		return
	}
	b.At = 0
	b.Line++
	b.Rings = b.Rings || b.Line == 8
	if b.Line == 10 {
		b.Line = 0
		b.Frame++
	}
}

// modelSample is one as chapter 7 tells it.
func modelSample(v [3]api.Voice) (sum byte) {
	for _, one := range v {
		if one.High {
			sum += one.Loud % 16
		}
	}
	return sum
}

// modelRun is what the chapter asks of Run, by the calls of other layers as they are told.
func modelRun(m api.Machine, inputs []api.Input, clocks int) (api.Machine, api.Shown) {
	m = twin(m)
	var s api.Shown
	for end := m.Clock + clocks; m.Clock < end; m.Clock++ {
		for _, in := range inputs {
			if in.Clock == m.Clock {
				p := &m.Pads[in.Pad]
				p.Down = in.Down
				if p.Latch {
					p.Shift = in.Down
				}
			}
		}
		if m.B.At == 0 && m.B.Line < 8 {
			pixels, _ := picture.Line(m.Video, m.B.Line)
			s.Lines = append(s.Lines, api.Line{Frame: m.B.Frame, Line: m.B.Line, Pixels: pixels})
		}
		if m.S.Wait == 0 {
			s.Samples = append(s.Samples, modelSample(m.S.V))
		}
		modelSteps(&m, &s)
		m.T = timer.Tick(m.T)
		for i := range m.S.V {
			m.S.V[i] = tone.Tick(m.S.V[i])
		}
		m.S.Wait = (m.S.Wait + 15) % 16
		modelBeam(&m.B)
	}
	return m, s
}

// noise makes numbers that look like any, the same ones each time.
func noise(seed uint64) func(below int) int {
	return func(below int) int {
		seed = seed*6364136223846793005 + 1442695040888963407
		return int(seed>>33) % below
	}
}

// livelyOrder tells one that is likely to come to what other parts see.
func livelyOrder(next func(below int) int) api.Order {
	places := []int{0xd000, 0xd008, 0xd00a, 0xd00c, 0xd00c, 0xd00e, 0xd010, 0xd010, 0xd011, 0xd018, 0xdfe4, 0x8000, 0x8078, 0xc000, 0xc080, 0xc0a0, 0xcffe, 0, 2, 0xe000, 0xbffe}
	o := api.Order{D: next(8), S: next(8), N: next(32) - 16}
	switch k := next(20); {
	case k < 5:
		return api.Order{Op: api.Ldi, D: next(8), W: places[next(len(places))] + next(4)}
	case k < 7:
		return api.Order{Op: api.Ldi, D: next(8), W: next(260)}
	case k < 12:
		o.Op = []int{api.St, api.Stb, api.Stb, api.Stb, api.Ld, api.Ldb}[next(6)]
		o.N = next(4)
	case k < 15:
		return api.Order{Op: []int{api.Ei, api.Ei, api.Rti, api.Hlt, api.Nop, api.Di, api.Ret, api.Trap}[next(8)]}
	case k < 16:
		return api.Order{Op: []int{api.Jmp, api.Jnz, api.Call, api.Jc}[next(4)], W: 6 + 2*next(90)}
	default:
		o = api.Order{Op: []int{api.Add, api.Sub, api.Xor, api.Mul, api.Cmp, api.Mov}[next(6)], D: next(8), S: next(8)}
	}
	return o
}

// livelyRom tells a program of such orders, that begins, is rung, and meets traps within itself.
func livelyRom(next func(below int) int) []byte {
	rom := []byte{0, 6, 0, byte(6 + 2*next(90)), 0, byte(6 + 2*next(90))}
	for len(rom) < 220 {
		words, _ := order.Words(livelyOrder(next))
		for _, w := range words {
			rom = append(rom, byte(w/256), byte(w%256))
		}
	}
	// From its end back to its beginning.
	return append(rom, 0x80, 0, 0, 6)
}

// livelyCpu tells a processor whose registers point to where things are.
func livelyCpu(next func(below int) int) (c api.Cpu) {
	for i := range c.R {
		c.R[i] = []uint16{0xd000, 0xd010, 0xd00e, 0x8010, 0xc010, 0xd018}[next(6)] + uint16(next(3))
	}
	c.R[7] = []uint16{0x8040, 0x8040, 0xc040, 0xd012}[next(4)]
	c.PC, c.May, c.C, c.Waits = 6, next(2) == 1, next(2) == 1, next(4) == 1
	return c
}

// lively tells a machine that likely does something.
func lively(next func(below int) int) api.Machine {
	list := func(n int) []byte {
		l := make([]byte, n)
		for i := range l {
			l[i] = byte(next(256))
		}
		return l
	}
	m := api.Machine{
		Main: livelyCpu(next), Aux: livelyCpu(next), MainRom: livelyRom(next), AuxRom: livelyRom(next),
		Ram: list(128), Own: list(64), Video: list(256),
		T:    api.Timer{Reload: uint16(next(300)), Count: uint16(next(300)), On: next(2) == 1},
		S:    api.Sound{Wait: next(16)},
		B:    api.Beam{Line: next(10), At: next(64), Rings: next(2) == 1, Frame: next(18000)},
		From: uint16(next(65536)), To: uint16(next(65536)),
		Granted: next(2) == 1, Held: next(4) == 1, Rung: next(4) == 1,
		Mail:  [2]byte{byte(next(256)), byte(next(256))},
		Clock: next(190000),
	}
	m.MainReady, m.AuxReady = m.Clock+next(40)-min(20, m.Clock), m.Clock+next(40)-min(20, m.Clock)
	for i := range m.Pads {
		m.Pads[i] = api.Pad{Down: byte(next(256)), Latch: next(2) == 1, Shift: byte(next(256))}
	}
	for i := range m.S.V {
		m.S.V[i] = api.Voice{Period: uint16(next(200)), Count: uint16(next(200)), Loud: byte(next(256)), High: next(2) == 1, Noise: uint16(next(2) * next(65536))}
	}
	return m
}

// anyInputs tells right ones of a machine that is at this clock.
func anyInputs(next func(below int) int, clock int) []api.Input {
	l := make([]api.Input, next(41))
	for i := range l {
		clock += next(3) * next(120)
		l[i] = api.Input{Clock: clock, Pad: next(2), Down: byte(next(256))}
	}
	return l
}

// twin tells a machine like m of its own.
func twin(m api.Machine) api.Machine {
	m.MainRom, m.AuxRom = bytes.Clone(m.MainRom), bytes.Clone(m.AuxRom)
	m.Ram, m.Own, m.Video = bytes.Clone(m.Ram), bytes.Clone(m.Own), bytes.Clone(m.Video)
	return m
}

// plain tells lists without anything in them as nil: either is right.
func plain(m api.Machine) api.Machine {
	for _, l := range []*[]byte{&m.MainRom, &m.AuxRom, &m.Ram, &m.Own, &m.Video} {
		if len(*l) == 0 {
			*l = nil
		}
	}
	return m
}

func sameMachine(a, b api.Machine) bool { return reflect.DeepEqual(plain(a), plain(b)) }

func sameShown(a, b api.Shown) bool {
	return slices.Equal(a.Lines, b.Lines) && bytes.Equal(a.Samples, b.Samples) && slices.Equal(a.Writes, b.Writes)
}

// Whatever a machine does, Run tells what the model does; and enough is done that this says something.
func TestModel(t *testing.T) {
	next := noise(8)
	writes, long, changed, asked := 0, 0, 0, 0
	for i := range 400 {
		m := lively(next)
		inputs := anyInputs(next, m.Clock)
		clocks := next(1500)
		got, shown := run(t, m, clocks, inputs...)
		want, wanted := modelRun(m, inputs, clocks)
		if !sameMachine(got, want) || !sameShown(shown, wanted) {
			t.Fatalf("machine %d, %d clocks, %v:\n%+v\n%+v, want\n%+v\n%+v", i, clocks, inputs, got, shown, want, wanted)
		}
		if e := bus.Check(got); e != api.OK {
			t.Fatalf("machine %d: not right any more: %d", i, e)
		}
		writes += len(shown.Writes)
		if got.MainReady > got.Clock+18 {
			long++
		}
		if !bytes.Equal(got.Video, m.Video) {
			changed++
		}
		if got.Held != m.Held || got.Granted != m.Granted {
			asked++
		}
	}
	if writes < 500 || long < 5 || changed < 50 || asked < 50 {
		t.Errorf("dull machines: %d writes, %d in transfers, %d pictures changed, %d held or let go", writes, long, changed, asked)
	}
}

// from tells those of inputs that are to come from a clock on.
func from(inputs []api.Input, clock int) (l []api.Input) {
	for _, in := range inputs {
		if in.Clock >= clock {
			l = append(l, in)
		}
	}
	return l
}

// In two parts, whatever the first one is: as in one.
func TestTwoParts(t *testing.T) {
	next := noise(9)
	for i := range 60 {
		m := lively(next)
		inputs := anyInputs(next, m.Clock)
		clocks := 300 + next(600)
		want, wanted := run(t, m, clocks, inputs...)
		for _, first := range []int{0, 1, 2, 15, 16, 63, 64, 65, next(clocks), clocks - 1, clocks} {
			half, s := run(t, m, first, inputs...)
			got, more := run(t, half, clocks-first, from(inputs, half.Clock)...)
			s.Lines = append(s.Lines, more.Lines...)
			s.Samples = append(s.Samples, more.Samples...)
			s.Writes = append(s.Writes, more.Writes...)
			if !sameMachine(got, want) || !sameShown(s, wanted) {
				t.Fatalf("machine %d by %d and %d:\n%+v\n%+v, in one\n%+v\n%+v", i, first, clocks-first, got, s, want, wanted)
			}
		}
	}
}

// Clock by clock, each a run of its own: as in one.
func TestManyParts(t *testing.T) {
	next := noise(10)
	for range 5 {
		m := lively(next)
		inputs := anyInputs(next, m.Clock)
		want, wanted := run(t, m, 700, inputs...)
		var s api.Shown
		for range 700 {
			out, more := run(t, m, 1, from(inputs, m.Clock)...)
			m = out
			s.Lines = append(s.Lines, more.Lines...)
			s.Samples = append(s.Samples, more.Samples...)
			s.Writes = append(s.Writes, more.Writes...)
		}
		if !sameMachine(m, want) || !sameShown(s, wanted) {
			t.Fatalf("clock by clock:\n%+v\n%+v, in one\n%+v\n%+v", m, s, want, wanted)
		}
	}
}
