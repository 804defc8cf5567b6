package watch

import (
	"slices"
	"testing"

	"marquee/api"
	"marquee/bus"
	"marquee/catch"
	"marquee/lock"
	"marquee/order"
)

// noise makes numbers that look like any, the same ones each time.
func noise(seed uint64) func(below int) int {
	return func(below int) int {
		seed = seed*6364136223846793005 + 1442695040888963407
		return int(seed>>33) % below
	}
}

// livelyOrder tells one of those that jump, sleep, wake, ring and hold, if the registers 1 and 3 point to the ports 0 and 16.
func livelyOrder(next func(below int) int) api.Order {
	switch next(14) {
	case 0:
		return api.Order{Op: []int{api.Hlt, api.Trap, api.Ret, api.Nop, api.Nop}[next(5)]}
	case 1, 2, 3:
		return api.Order{Op: []int{api.Ei, api.Ei, api.Ei, api.Rti, api.Nop, api.Di}[next(6)]}
	case 4, 5, 6:
		return api.Order{Op: api.Stb, D: 1, S: 2, N: []int{0, 1, 2, 3, 4, 4, 4, 8, 8, 14}[next(10)]}
	case 7, 8:
		return api.Order{Op: api.Stb, D: 3, S: 2, N: []int{0, 0, 1, 1, 8}[next(5)]}
	case 9:
		return api.Order{Op: api.Ldb, D: 2, S: 3, N: []int{0, 1, 8, 8, -16, -15, -12}[next(7)]}
	case 10:
		return api.Order{Op: []int{api.Jmp, api.Jnz, api.Jc, api.Call}[next(4)], W: 6 + 2*next(90)}
	case 11:
		return api.Order{Op: []int{api.Add, api.Xor, api.Mul, api.Cmp}[next(4)], D: 4 + next(3), S: next(8)}
	case 12:
		return api.Order{Op: api.Jmp, W: []int{0x8000, 0x8020, 7, 219, 1, 0xc010}[next(6)]}
	}
	return api.Order{Op: api.Ldi, D: 2, W: []int{1, 3, 0, next(256), next(16)}[next(5)]}
}

// romOf tells a program of such orders, that begins, is rung, and meets traps within itself.
func romOf(next func(below int) int, one func(func(below int) int) api.Order) []byte {
	rom := []byte{0, 6, 0, byte(6 + 2*next(90)), 0, byte(6 + 2*next(90))}
	for len(rom) < 220 {
		words, _ := order.Words(one(next))
		for _, w := range words {
			rom = append(rom, byte(w/256), byte(w%256))
		}
	}
	// From its end back to its beginning.
	return append(rom, 0x80, 0, 0, 6)
}

// anyCpu tells a processor that sleeps, or doesn't.
func anyCpu(next func(below int) int, stack uint16) (c api.Cpu) {
	c.R = [8]uint16{1: 0xd000, 2: uint16(next(256)), 3: 0xd010, 4: 0xc0a0, 5: 0x8010, 6: uint16(next(65536)), 7: stack}
	c.PC, c.May, c.C, c.Waits = uint16(6+2*next(90)), next(3) > 0, next(2) == 1, next(4) == 1
	return c
}

// anyMachine tells one with programs of such orders, and orders in its memories.
func anyMachine(next func(below int) int) api.Machine {
	list := func(n int) []byte { return slices.Concat(romOf(next, livelyOrder), romOf(next, livelyOrder))[6 : 6+n] }
	m := api.Machine{
		Main: anyCpu(next, 0x8080), Aux: anyCpu(next, 0x8040),
		MainRom: romOf(next, livelyOrder), AuxRom: romOf(next, livelyOrder),
		Ram: list(api.RamSize), Own: list(api.OwnSize), Video: list(api.VideoSize),
		T:    api.Timer{Reload: uint16(next(3) * next(150)), Count: uint16(next(100)), On: next(2) == 1, Rings: next(4) == 1},
		S:    api.Sound{Wait: next(api.SoundTime)},
		B:    api.Beam{Line: next(api.AllLines), At: next(api.LineTime), Rings: next(3) == 1, Frame: next(18900)},
		From: uint16(next(65536)), To: uint16(next(65536)),
		Granted: next(2) == 1, Held: next(4) == 1, Rung: next(4) == 1,
		Clock: next(2) * next(api.MaxTime-api.MaxSteps),
	}
	m.MainReady, m.AuxReady = max(0, m.Clock+next(60)-20), max(0, m.Clock+next(60)-20)
	return m
}

// anyInputs tells right ones of a machine that is at this clock.
func anyInputs(next func(below int) int, clock int) []api.Input {
	l := make([]api.Input, next(api.MaxInputs+1))
	for i := range l {
		clock += next(3) * next(40)
		l[i] = api.Input{Clock: clock, Pad: next(2), Down: byte(next(256))}
	}
	return l
}

// from tells those of inputs that are to come from a clock on.
func from(inputs []api.Input, clock int) (l []api.Input) {
	for _, in := range inputs {
		if in.Clock >= clock {
			l = append(l, in)
		}
	}
	return l
}

// modelDue tells what is looked for at one clock.
func modelDue(m api.Machine) (l []api.Did) {
	if m.MainReady <= m.Clock && !m.Main.Waits && (!m.Main.May || !m.T.Rings && !m.B.Rings) {
		l = append(l, api.Did{Clock: m.Clock, PC: m.Main.PC, Text: modelText(m.MainRom, int(m.Main.PC))})
	}
	if !m.Held && m.AuxReady <= m.Clock && !m.Aux.Waits && (!m.Aux.May || !m.Rung) {
		l = append(l, api.Did{Clock: m.Clock, Aux: true, PC: m.Aux.PC, Text: modelText(m.AuxRom, int(m.Aux.PC))})
	}
	return l
}

// machines tells a machine at each of its clocks, the last one at the end: none of them hangs on when it is looked at.
func machines(t *testing.T, m api.Machine, inputs []api.Input, clocks int) []api.Machine {
	t.Helper()
	l := []api.Machine{m}
	for range clocks {
		out, _, e := lock.Run(m, from(inputs, m.Clock), 1)
		if e != api.OK {
			t.Fatalf("a clock: %d", e)
		}
		m = out
		l = append(l, m)
	}
	return l
}

// Whatever machines do: a trace tells what is due at each clock, and stops at places that the main processor comes to.
func TestAnyMachine(t *testing.T) {
	next := noise(15)
	mains, auxes, asleep, unknowns, there, never := 0, 0, 0, 0, 0, 0
	for range 300 {
		m := anyMachine(next)
		inputs := anyInputs(next, m.Clock)
		clocks := next(api.MaxSteps + 1)
		all := machines(t, m, inputs, clocks)
		var want []api.Did
		for _, one := range all[:clocks] {
			want = append(want, modelDue(one)...)
		}
		l, out, e := Trace(m, inputs, clocks)
		if e != api.OK || !slices.Equal(l, want) || !sameMachine(out, all[clocks]) {
			t.Fatalf("%d clocks: %v, %d, want %v", clocks, l, e, want)
		}
		for _, d := range l {
			switch {
			case d.Text == "?":
				unknowns++
			case d.Aux:
				auxes++
			default:
				mains++
			}
		}
		if len(l) < clocks/50 {
			asleep++
		}
		for range 10 {
			pc := uint16(6 + 2*next(110))
			i := slices.IndexFunc(all[:clocks], func(one api.Machine) bool {
				return one.MainReady <= one.Clock && one.Main.PC == pc && !one.Main.Waits
			})
			found := i >= 0
			if found {
				there++
			} else {
				never++
				i = clocks
			}
			if out, got, e := Break(m, inputs, clocks, pc); e != api.OK || got != found || !sameMachine(out, all[i]) {
				t.Fatalf("%d in %d clocks: at %d, %v, %d, want %v", pc, clocks, out.Clock, got, e, found)
			}
		}
	}
	if mains < 2000 || auxes < 1000 || asleep < 20 || unknowns < 200 || there < 200 || never < 200 {
		t.Errorf("dull machines: %d, %d orders, %d mostly asleep, %d unknown; %d places come to, %d not", mains, auxes, asleep, unknowns, there, never)
	}
}

// In two parts: as in one.
func TestTwoParts(t *testing.T) {
	next := noise(16)
	for range 60 {
		m := anyMachine(next)
		inputs := anyInputs(next, m.Clock)
		clocks := 1 + next(api.MaxSteps)
		want, wanted, _ := Trace(m, inputs, clocks)
		for _, first := range []int{0, 1, next(clocks), clocks - 1, clocks} {
			a, half, e := Trace(m, inputs, first)
			b, out, e2 := Trace(half, from(inputs, half.Clock), clocks-first)
			if e != api.OK || e2 != api.OK || !slices.Equal(slices.Concat(a, b), want) || !sameMachine(out, wanted) {
				t.Fatalf("by %d and %d: %v and %v, want %v", first, clocks-first, a, b, want)
			}
		}
	}
}

// Who stops and goes on comes to where a run does, and each stop is an order that is traced, if nothing rings there.
func TestStopAndGoOn(t *testing.T) {
	m := free(t, "ldi r2, 9\ngo:\naddi r2, -1\nstb r1, r2, 14\njnz go\nhlt\n", "go:\nstb r1, r2, 1\naddi r2, 3\njmp go\n")
	want, _, _ := catch.Run(m, nil, 400)
	l, traced, _ := Trace(m, nil, 400)
	if !sameMachine(traced, want) {
		t.Errorf("%+v, want %+v", traced, want)
	}
	var stops []api.Did
	for end := m.Clock + 400; m.Clock < end; {
		out, there, e := Break(m, nil, end-m.Clock, 10)
		if e != api.OK {
			t.Fatalf("at %d: %d", m.Clock, e)
		}
		if !there {
			m = out
			break
		}
		stops = append(stops, api.Did{Clock: out.Clock, PC: 10, Text: "addi r2, -1"})
		m = later(t, out, 1)
	}
	l = slices.DeleteFunc(l, func(d api.Did) bool { return d.Aux || d.PC != 10 })
	if len(l) != 9 || !slices.Equal(stops, l) || !sameMachine(m, want) {
		t.Errorf("stops %v, traced %v", stops, l)
	}
}

// Programs that aren't there are read as traps without end, of which no text is known.
func TestNoPrograms(t *testing.T) {
	m, _ := bus.New(nil, nil)
	m.Held = false
	l, out, e := Trace(m, nil, 40)
	want := []api.Did{{PC: 0xffff, Text: "?"}, {Aux: true, Text: "?"}, {Clock: 15, PC: 0xffff, Text: "?"}, {Clock: 25, Aux: true, PC: 0xffff, Text: "?"}, {Clock: 30, PC: 0xffff, Text: "?"}}
	if e != api.OK || !slices.Equal(l, want) || !sameMachine(out, later(t, m, 40)) {
		t.Errorf("%v, %d, want %v", l, e, want)
	}
}
