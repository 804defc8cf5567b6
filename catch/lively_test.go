package catch

import (
	"testing"

	"marquee/api"
	"marquee/lock"
	"marquee/order"
)

// noise makes numbers that look like any, the same ones each time.
func noise(seed uint64) func(below int) int {
	return func(below int) int {
		seed = seed*6364136223846793005 + 1442695040888963407
		return int(seed>>33) % below
	}
}

// wildOrder tells one that may come to anything.
func wildOrder(next func(below int) int) api.Order {
	places := []int{0xd000, 0xd008, 0xd00c, 0xd00e, 0xd010, 0xd011, 0xd018, 0xdfe4, 0x8000, 0x8078, 0xc000, 0xc080, 0xc0a0, 0xcffe, 0, 0xe000}
	switch k := next(20); {
	case k < 5:
		return api.Order{Op: api.Ldi, D: next(8), W: places[next(len(places))] + next(4)}
	case k < 7:
		return api.Order{Op: api.Ldi, D: next(8), W: next(260)}
	case k < 12:
		return api.Order{Op: []int{api.St, api.Stb, api.Stb, api.Stb, api.Ld, api.Ldb}[next(6)], D: next(8), S: next(8), N: next(4)}
	case k < 15:
		return api.Order{Op: []int{api.Ei, api.Ei, api.Rti, api.Hlt, api.Nop, api.Di, api.Ret, api.Trap}[next(8)]}
	case k < 16:
		return api.Order{Op: []int{api.Jmp, api.Jnz, api.Call, api.Jc}[next(4)], W: 6 + 2*next(90)}
	}
	return api.Order{Op: []int{api.Add, api.Sub, api.Xor, api.Mul, api.Cmp, api.Mov}[next(6)], D: next(8), S: next(8)}
}

// sleepyOrder tells one of those that sleep, wake, ring and hold, if the registers 1 and 3 point to the ports 0 and 16.
func sleepyOrder(next func(below int) int) api.Order {
	switch next(12) {
	case 0:
		return api.Order{Op: api.Hlt}
	case 1, 2, 3:
		return api.Order{Op: []int{api.Ei, api.Ei, api.Ei, api.Rti, api.Nop, api.Di}[next(6)]}
	case 4, 5, 6:
		return api.Order{Op: api.Stb, D: 1, S: 2, N: []int{0, 1, 2, 3, 4, 4, 4, 8, 8, 14}[next(10)]}
	case 7, 8:
		return api.Order{Op: api.Stb, D: 3, S: 2, N: []int{0, 1, 1, 8}[next(4)]}
	case 9:
		return api.Order{Op: api.Ldb, D: 2, S: 3, N: []int{0, 1, 8, 8, -10, -9, -12}[next(7)]}
	case 10:
		return api.Order{Op: api.Jmp, W: 6 + 2*next(90)}
	}
	return api.Order{Op: api.Ldi, D: 2, W: []int{1, 3, 3, next(256), next(16)}[next(5)]}
}

// romOf tells a program of such orders, that begins, is rung, and meets traps within itself.
func romOf(next func(below int) int, one func(func(below int) int) api.Order) []byte {
	rom := []byte{0, 6, 0, byte(6 + 2*next(90)), 0, byte(6 + 2*next(90))}
	for len(rom) < 220 {
		words, _ := order.Words(one(next))
		for _, w := range words {
			rom = append(rom, byte(w/256), byte(w%256))
		}
	}
	// From its end back to its beginning.
	return append(rom, 0x80, 0, 0, 6)
}

// anyCpu tells a processor that sleeps, or doesn't.
func anyCpu(next func(below int) int, stack uint16) (c api.Cpu) {
	c.R = [8]uint16{1: 0xd000, 2: uint16(next(256)), 3: 0xd010, 4: 0xc0a0, 5: 0x8010, 6: uint16(next(65536)), 7: stack}
	c.PC, c.May, c.C, c.Waits = 6, next(4) > 0, next(2) == 1, next(3) == 1
	return c
}

// anyMachine tells one with programs of such orders.
func anyMachine(next func(below int) int, one func(func(below int) int) api.Order) api.Machine {
	list := func(n int) []byte {
		l := make([]byte, n)
		for i := range l {
			l[i] = byte(next(256))
		}
		return l
	}
	m := api.Machine{
		Main: anyCpu(next, 0x8080), Aux: anyCpu(next, 0x8040), MainRom: romOf(next, one), AuxRom: romOf(next, one),
		Ram: list(api.RamSize), Own: list(api.OwnSize), Video: list(api.VideoSize),
		T:    api.Timer{Reload: uint16(next(3) * next(150)), Count: uint16(next(300)), On: next(2) == 1, Rings: next(4) == 1},
		S:    api.Sound{Wait: next(api.SoundTime)},
		B:    api.Beam{Line: next(api.AllLines), At: next(api.LineTime), Rings: next(3) == 1, Frame: next(18900)},
		From: uint16(next(65536)), To: uint16(next(65536)),
		Granted: next(2) == 1, Held: next(4) == 1, Rung: next(4) == 1,
		Mail:  [2]byte{byte(next(256)), byte(next(256))},
		Clock: next(2) * next(api.MaxTime-api.MaxClocks),
	}
	m.MainReady, m.AuxReady = max(0, m.Clock+next(60)-20), max(0, m.Clock+next(60)-20)
	for i := range m.Pads {
		m.Pads[i] = api.Pad{Down: byte(next(256)), Latch: next(2) == 1, Shift: byte(next(256))}
	}
	for i := range m.S.V {
		m.S.V[i] = api.Voice{Period: uint16(next(200)), Count: uint16(next(200)), Loud: byte(next(256)), High: next(2) == 1, Noise: uint16(next(2) * next(65536))}
	}
	return m
}

// anyInputs tells right ones of a machine that is at this clock.
func anyInputs(next func(below int) int, clock int) []api.Input {
	l := make([]api.Input, next(api.MaxInputs+1))
	for i := range l {
		clock += next(3) * next(120)
		l[i] = api.Input{Clock: clock, Pad: next(2), Down: byte(next(256))}
	}
	return l
}

// Whatever a machine does, Run tells what it does clock by clock; and enough is done that this says something.
func TestAsLock(t *testing.T) {
	next := noise(12)
	writes, woken, slept, asked := 0, 0, 0, 0
	for i := range 3000 {
		m := anyMachine(next, sleepyOrder)
		if i%3 == 0 {
			m = anyMachine(next, wildOrder)
		}
		out, shown := asLock(t, "any machine", m, next(1500), anyInputs(next, m.Clock)...)
		writes += len(shown.Writes)
		if m.Main.Waits && !out.Main.Waits || m.Aux.Waits && !out.Aux.Waits {
			woken++
		}
		if !m.Main.Waits && out.Main.Waits || !m.Aux.Waits && out.Aux.Waits {
			slept++
		}
		if out.Held != m.Held || out.Granted != m.Granted {
			asked++
		}
	}
	if writes < 3000 || woken < 300 || slept < 300 || asked < 300 {
		t.Errorf("dull machines: %d writes, %d woken, %d asleep, %d held or let go", writes, woken, slept, asked)
	}
}

// As many clocks as may be.
func TestLongRuns(t *testing.T) {
	next := noise(13)
	for i := range 24 {
		m := anyMachine(next, sleepyOrder)
		if i%3 == 0 {
			m = anyMachine(next, wildOrder)
		}
		asLock(t, "a long run", m, api.MaxClocks, anyInputs(next, m.Clock)...)
	}
}

// Each single clock at which a run may end: nothing is done too early, nothing is left for later.
func TestEachEnd(t *testing.T) {
	next := noise(14)
	for range 8 {
		m := anyMachine(next, sleepyOrder)
		inputs := anyInputs(next, m.Clock)
		for clocks := range 400 {
			asLock(t, "each end", m, clocks, inputs...)
		}
	}
}

// from tells those of inputs that are to come from a clock on.
func from(inputs []api.Input, clock int) (l []api.Input) {
	for _, in := range inputs {
		if in.Clock >= clock {
			l = append(l, in)
		}
	}
	return l
}

// both tells what was shown in two parts as one.
func both(a, b api.Shown) api.Shown {
	a.Lines = append(a.Lines, b.Lines...)
	a.Samples = append(a.Samples, b.Samples...)
	a.Writes = append(a.Writes, b.Writes...)
	return a
}

// In two parts, whatever the first one is: as in one.
func TestTwoParts(t *testing.T) {
	next := noise(15)
	for i := range 100 {
		m := anyMachine(next, sleepyOrder)
		inputs := anyInputs(next, m.Clock)
		clocks := 300 + next(600)
		want, wanted := run(t, m, clocks, inputs...)
		for _, first := range []int{0, 1, 2, 15, 16, 63, 64, 65, next(clocks), clocks - 1, clocks} {
			half, s := run(t, m, first, inputs...)
			got, more := run(t, half, clocks-first, from(inputs, half.Clock)...)
			if !sameMachine(got, want) || !sameShown(both(s, more), wanted) {
				t.Fatalf("machine %d by %d and %d:\n%+v, in one\n%+v", i, first, clocks-first, got, want)
			}
		}
	}
}

// Clock by clock, each a run of its own: as in one.
func TestManyParts(t *testing.T) {
	next := noise(16)
	for range 10 {
		m := anyMachine(next, sleepyOrder)
		inputs := anyInputs(next, m.Clock)
		want, wanted := run(t, m, 700, inputs...)
		var s api.Shown
		for range 700 {
			out, more := run(t, m, 1, from(inputs, m.Clock)...)
			m, s = out, both(s, more)
		}
		if !sameMachine(m, want) || !sameShown(s, wanted) {
			t.Fatalf("clock by clock:\n%+v, in one\n%+v", m, want)
		}
	}
}

// How quick a run is, clock by clock and from event to event, of machines whose processors mostly sleep, or never do.
func BenchmarkRun(b *testing.B) {
	ways := []struct {
		name string
		run  func(api.Machine, []api.Input, int) (api.Machine, api.Shown, api.Errno)
	}{{"lock", lock.Run}, {"catch", Run}}
	sleepy := program(b, "go:\nei\nhlt\njmp go\nring:\nstb r1, r1, 8\nstb r3, r5, 1\nrti\n")
	reader := program(b, "go:\nei\nhlt\njmp go\nring:\nldb r2, r3, 8\nstb r1, r2, 1\nrti\n")
	busy := program(b, "go:\naddi r5, 1\nstb r4, r5, 2\njmp go\n")
	for _, c := range []struct {
		name      string
		main, aux []byte
	}{{"sleepy", sleepy, reader}, {"busy", busy, busy}} {
		m := free(b, "", "")
		m.MainRom, m.AuxRom = c.main, c.aux
		for _, w := range ways {
			b.Run(c.name+"/"+w.name, func(b *testing.B) {
				for b.Loop() {
					w.run(m, nil, api.MaxClocks)
				}
			})
		}
	}
}
