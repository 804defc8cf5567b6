package watch

import (
	"bytes"
	"reflect"
	"slices"
	"strings"
	"testing"

	"marquee/api"
	"marquee/asm"
	"marquee/bus"
	"marquee/lock"
)

// program tells the bytes of a text that begins at the place 6; where it names no place for being rung, it waits there.
func program(t *testing.T, text string) []byte {
	t.Helper()
	if !strings.Contains(text, "ring:\n") {
		text += "ring:\nhlt\n"
	}
	text = ".word 6\n.word ring\n.word trap\n" + text + "trap:\nhlt\n"
	rom, at, e := asm.Build(text)
	if e != api.OK {
		t.Fatalf("line %d of %q: %d", at, text, e)
	}
	return rom
}

// held tells a new machine with these programs.
func held(t *testing.T, main, aux string) api.Machine {
	t.Helper()
	m, e := bus.New(program(t, main), program(t, aux))
	if e != api.OK {
		t.Fatalf("New: %d", e)
	}
	return m
}

// free tells a machine whose other processor isn't Held, and begins at once; of both, the registers 1 and 3 point to the ports 0 and 16, and 7 to the memory's end.
func free(t *testing.T, main, aux string) api.Machine {
	t.Helper()
	m := held(t, main, aux)
	m.Held, m.Aux.PC = false, 6
	m.Main.R, m.Aux.R = [8]uint16{1: 0xd000, 3: 0xd010, 7: 0x8080}, [8]uint16{1: 0xd000, 3: 0xd010, 7: 0x8040}
	return m
}

// plain tells lists without anything in them as nil: either is right.
func plain(m api.Machine) api.Machine {
	for _, l := range []*[]byte{&m.MainRom, &m.AuxRom, &m.Ram, &m.Own, &m.Video} {
		if len(*l) == 0 {
			*l = nil
		}
	}
	return m
}

func sameMachine(a, b api.Machine) bool { return reflect.DeepEqual(plain(a), plain(b)) }

// later tells the machine that chapter 11's Run tells.
func later(t *testing.T, m api.Machine, clocks int, inputs ...api.Input) api.Machine {
	t.Helper()
	out, _, e := lock.Run(m, inputs, clocks)
	if e != api.OK {
		t.Fatalf("a run of %d clocks: %d", clocks, e)
	}
	return out
}

// traced holds a trace against what it must be, and its machine against a run's.
func traced(t *testing.T, what string, m api.Machine, clocks int, want []api.Did, inputs ...api.Input) {
	t.Helper()
	l, out, e := Trace(m, inputs, clocks)
	if e != api.OK || !slices.Equal(l, want) {
		t.Errorf("%s: %v, %d, want %v", what, l, e, want)
	}
	if !sameMachine(out, later(t, m, clocks, inputs...)) {
		t.Errorf("%s: another machine than a run's: %+v", what, out)
	}
}

func TestTrace(t *testing.T) {
	m := free(t, "ldi r2, 7\nmul r2, r2\nadd r4, r2\nhlt\n", "addi r2, -1\njnz 6\nhlt\n")
	m.Aux.R[2] = 2
	want := []api.Did{
		{Clock: 0, PC: 6, Text: "ldi r2, 7"},
		{Clock: 0, Aux: true, PC: 6, Text: "addi r2, -1"},
		{Clock: 5, Aux: true, PC: 8, Text: "jnz 6"},
		{Clock: 6, PC: 10, Text: "mul r2, r2"},
		{Clock: 20, Aux: true, PC: 6, Text: "addi r2, -1"},
		{Clock: 24, PC: 12, Text: "add r4, r2"},
		{Clock: 25, Aux: true, PC: 8, Text: "jnz 6"},
		{Clock: 27, PC: 14, Text: "hlt"},
		{Clock: 35, Aux: true, PC: 12, Text: "hlt"},
	}
	// Each end: what is due at it isn't done any more.
	for clocks := range 120 {
		n := slices.IndexFunc(want, func(d api.Did) bool { return d.Clock >= clocks })
		if n < 0 {
			n = len(want)
		}
		traced(t, "each end", m, clocks, want[:n])
	}
	traced(t, "as long as may be", m, api.MaxSteps, want)
}

// Who isn't ready yet does nothing till then; who was to be ready long ago does at once.
func TestReady(t *testing.T) {
	for _, c := range []struct{ clock, main, aux, first, other int }{
		{0, 0, 0, 0, 0},
		{1000, 0, 0, 1000, 1000},
		{1000, 1000, 1001, 1000, 1001},
		{1000, 1007, 999, 1007, 1000},
		{1000, 1050, 1499, 1050, 1499},
		{1000, 1499, 1050, 1499, 1050},
		{1000, 1500, 1500, -1, -1},
		{1000, 21000, 1499, -1, 1499},
		{199500, 199999, 200000, 199999, -1},
	} {
		m := free(t, "hlt\n", "hlt\n")
		m.Clock, m.MainReady, m.AuxReady = c.clock, c.main, c.aux
		var want []api.Did
		if c.first >= 0 {
			want = append(want, api.Did{Clock: c.first, PC: 6, Text: "hlt"})
		}
		if c.other >= 0 {
			want = append(want, api.Did{Clock: c.other, Aux: true, PC: 6, Text: "hlt"})
		}
		slices.SortStableFunc(want, func(a, b api.Did) int { return a.Clock - b.Clock })
		traced(t, "ready", m, api.MaxSteps, want)
	}
}

// Who waits, and who is interrupted, does no order.
func TestNoOrders(t *testing.T) {
	for _, c := range []struct {
		waits, may, timer, beam bool
		does                    bool
	}{
		{false, false, false, false, true},
		{false, true, false, false, true},
		{false, false, true, true, true},
		{false, true, true, false, false},
		{false, true, false, true, false},
		{false, true, true, true, false},
		{true, false, false, false, false},
		{true, true, false, false, false},
		{true, false, true, true, false},
		{true, true, true, true, false},
	} {
		m := held(t, "nop\n", "nop\n")
		m.Main.Waits, m.Main.May, m.T.Rings, m.B.Rings = c.waits, c.may, c.timer, c.beam
		var want []api.Did
		if c.does {
			want = []api.Did{{PC: 6, Text: "nop"}}
		}
		traced(t, "main", m, 1, want)

		m = free(t, "nop\n", "nop\n")
		m.Aux.Waits, m.Aux.May, m.Rung, m.MainReady = c.waits, c.may, c.timer || c.beam, 9
		if c.does {
			want = []api.Did{{Aux: true, PC: 6, Text: "nop"}}
		}
		traced(t, "aux", m, 1, want)
	}
}

// What rings one processor is nothing to the other one.
func TestWhoseRing(t *testing.T) {
	m := free(t, "nop\n", "nop\n")
	m.Main.May, m.Aux.May = true, true
	m.Rung = true
	traced(t, "mail", m, 1, []api.Did{{PC: 6, Text: "nop"}})
	m.Rung, m.T.Rings, m.B.Rings = false, true, true
	traced(t, "timer and beam", m, 1, []api.Did{{Aux: true, PC: 6, Text: "nop"}})
}

// Being interrupted takes its time; then come the orders there.
func TestInterrupted(t *testing.T) {
	m := held(t, "go:\njmp go\nring:\nstb r1, r2, 4\nrti\n", "")
	m.Main.R[1], m.Main.R[2], m.Main.R[7], m.Main.May = 0xd000, 2, 0x8080, true
	m.T = api.Timer{On: true, Count: 12, Reload: 12}
	traced(t, "a timer", m, 60, []api.Did{
		{Clock: 0, PC: 6, Text: "jmp 6"},
		{Clock: 9, PC: 6, Text: "jmp 6"},
		// It rings behind clock 12, is heard at 18, and takes 18 clocks.
		{Clock: 36, PC: 10, Text: "stb r1, r2, 4"},
		{Clock: 42, PC: 12, Text: "rti"},
		{Clock: 57, PC: 6, Text: "jmp 6"},
	})
}

// A processor that is let go begins in the clock in which it was looked at as Held: its first order isn't seen. One that is held in this clock was seen.
func TestHeldAndLetGo(t *testing.T) {
	m := held(t, "stb r3, r2, 0\nldi r2, 2\nstb r3, r2, 0\nhlt\n", "addi r1, 1\naddi r1, 2\naddi r1, 3\naddi r1, 4\n")
	m.Main.R[3] = 0xd010
	traced(t, "let go, and held again", m, 100, []api.Did{
		{Clock: 0, PC: 6, Text: "stb r3, r2, 0"},
		{Clock: 5, Aux: true, PC: 8, Text: "addi r1, 2"},
		{Clock: 6, PC: 8, Text: "ldi r2, 2"},
		{Clock: 10, Aux: true, PC: 10, Text: "addi r1, 3"},
		{Clock: 12, PC: 12, Text: "stb r3, r2, 0"},
		{Clock: 18, PC: 14, Text: "hlt"},
	})
	m = free(t, "stb r3, r2, 0\nhlt\n", "addi r1, 1\naddi r1, 2\n")
	m.Main.R[2] = 2
	traced(t, "held in this clock", m, 100, []api.Did{
		{Clock: 0, PC: 6, Text: "stb r3, r2, 0"},
		{Clock: 0, Aux: true, PC: 6, Text: "addi r1, 1"},
		{Clock: 6, PC: 8, Text: "hlt"},
	})
}

// Mail of this clock isn't seen either when the other processor is looked at.
func TestRungInThisClock(t *testing.T) {
	m := free(t, "stb r3, r2, 1\nhlt\n", "nop\nring:\nhlt\n")
	m.Aux.May = true
	traced(t, "mail", m, 60, []api.Did{
		{Clock: 0, PC: 6, Text: "stb r3, r2, 1"},
		{Clock: 0, Aux: true, PC: 6, Text: "nop"},
		{Clock: 6, PC: 8, Text: "hlt"},
		{Clock: 30, Aux: true, PC: 8, Text: "hlt"},
	})
}

// While a Held processor would be ready, nobody waits for it.
func TestHeldIsNotAwaited(t *testing.T) {
	m := held(t, "nop\nhlt\n", "nop\n")
	m.AuxReady, m.MainReady = 3, 50
	traced(t, "held", m, 100, []api.Did{{Clock: 50, PC: 6, Text: "nop"}, {Clock: 53, PC: 8, Text: "hlt"}})
}

// A transfer takes its clocks, too.
func TestTransfer(t *testing.T) {
	m := held(t, "stb r1, r2, 14\nhlt\n", "")
	m.Main.R[1], m.Main.R[2] = 0xd000, 200
	traced(t, "a transfer", m, 500, []api.Did{{PC: 6, Text: "stb r1, r2, 14"}, {Clock: 406, PC: 8, Text: "hlt"}})
}

// What is pressed comes when it is to, however often the machine is looked at in between.
func TestPressed(t *testing.T) {
	m := free(t, "go:\nldb r2, r1, 0\ncmp r2, r4\njz go\nhlt\n", "go:\njmp go\n")
	m.Pads[0].Latch = true
	for _, c := range []struct{ press, seen int }{{0, 0}, {1, 18}, {17, 18}, {18, 18}, {19, 36}, {36, 36}} {
		inputs := []api.Input{{Clock: c.press, Down: 0x80}, {Clock: c.press, Pad: 1, Down: 9}, {Clock: 400000}}
		l, out, e := Trace(m, inputs, 100)
		i := slices.IndexFunc(l, func(d api.Did) bool { return d.Text == "hlt" })
		if e != api.OK || i < 0 || l[i].Clock != c.seen+15 || out.Pads[0].Down != 0x80 || out.Pads[1].Down != 9 {
			t.Errorf("pressed at %d: %v, %v, %d", c.press, l, out.Pads, e)
		}
		if want := later(t, m, 100, inputs...); !sameMachine(out, want) {
			t.Errorf("pressed at %d: %+v, want %+v", c.press, out, want)
		}
	}
}

func TestBreak(t *testing.T) {
	m := free(t, "ldi r2, 3\ngo:\naddi r2, -1\njnz go\nhlt\n", "go:\naddi r2, 1\njmp go\n")
	for _, c := range []struct {
		clocks int
		pc     uint16
		at     int // -1: never
	}{
		{60, 6, 0},
		{1, 6, 0},
		{0, 6, -1}, // not looked at
		{60, 10, 6},
		{7, 10, 6},
		{6, 10, -1}, // over when it comes there
		{60, 12, 9},
		{60, 16, 39},
		{40, 16, 39},
		{39, 16, -1},
		{500, 18, -1}, // it waits there
		{500, 8, -1},
		{500, 7, -1},
		{500, 0, -1},
		{500, 0xffff, -1},
	} {
		out, there, e := Break(m, nil, c.clocks, c.pc)
		if e != api.OK || there != (c.at >= 0) {
			t.Errorf("%d in %d clocks: %v, %d", c.pc, c.clocks, there, e)
		}
		at := c.at
		if at < 0 {
			at = c.clocks
		}
		if want := later(t, m, at); !sameMachine(out, want) || there && (out.Clock != at || out.Main.PC != c.pc) {
			t.Errorf("%d in %d clocks: %+v, want %+v", c.pc, c.clocks, out, want)
		}
	}
}

// A place that it is at but can't go on from isn't one that it comes to; one where it is rung is.
func TestBreakWhere(t *testing.T) {
	for i, c := range []struct {
		set  func(m *api.Machine)
		want bool
		at   int
	}{
		{func(m *api.Machine) {}, true, 1000},
		{func(m *api.Machine) { m.MainReady = 1000 }, true, 1000},
		{func(m *api.Machine) { m.MainReady = 1001 }, true, 1001},
		{func(m *api.Machine) { m.MainReady = 1049 }, true, 1049},
		{func(m *api.Machine) { m.MainReady = 1050 }, false, 1050},
		{func(m *api.Machine) { m.Main.Waits = true }, false, 1050},
		{func(m *api.Machine) { m.Main.Waits, m.Main.May, m.B.Rings = true, true, true }, false, 1050},
		{func(m *api.Machine) { m.Main.May, m.T.Rings = true, true }, true, 1000},
		{func(m *api.Machine) { m.Main.May, m.B.Rings = true, true }, true, 1000},
		{func(m *api.Machine) { m.Main.PC, m.Aux.PC = 8, 6 }, false, 1050},
		{func(m *api.Machine) { m.Held = true }, true, 1000},
		{func(m *api.Machine) { m.MainReady, m.AuxReady = 1020, 1003 }, true, 1020},
	} {
		m := free(t, "nop\nhlt\n", "nop\nhlt\n")
		m.Clock = 1000
		c.set(&m)
		out, there, e := Break(m, nil, 50, 6)
		if e != api.OK || there != c.want || out.Clock != c.at || !sameMachine(out, later(t, m, c.at-1000)) {
			t.Errorf("%d: at %d, %v, %d, want %+v", i, out.Clock, there, e, c)
		}
	}
}

// Places beyond the program are places, too; and only the first time counts.
func TestBreakBeyond(t *testing.T) {
	m := held(t, "jmp 32784\n", "")
	copy(m.Ram[16:], []byte{0x80, 0, 0x80, 16}) // a jump to itself
	for _, clocks := range []int{10, 100, 500} {
		if out, there, e := Break(m, nil, clocks, 0x8010); e != api.OK || !there || out.Clock != 9 {
			t.Errorf("in %d clocks: at %d, %v, %d", clocks, out.Clock, there, e)
		}
	}
	out := later(t, m, 10)
	if out, there, e := Break(out, nil, 9, 0x8010); e != api.OK || !there || out.Clock != 18 {
		t.Errorf("the next time: at %d, %v, %d", out.Clock, there, e)
	}
	if out, there, e := Break(out, nil, 8, 0x8010); e != api.OK || there || out.Clock != 18 {
		t.Errorf("ahead of the next time: at %d, %v, %d", out.Clock, there, e)
	}
}

// Where it stops, what is pressed in this clock isn't yet.
func TestBreakAheadOfPress(t *testing.T) {
	m := held(t, "nop\nnop\nnop\nhlt\n", "")
	inputs := []api.Input{{Clock: 2, Down: 1}, {Clock: 3, Down: 2}, {Clock: 6, Down: 4}}
	for pc, want := range map[uint16]byte{6: 0, 8: 1, 10: 2, 12: 4} {
		out, there, e := Break(m, inputs, 50, pc)
		if e != api.OK || !there || out.Pads[0].Down != want || out.Clock != 3*(int(pc)-6)/2 {
			t.Errorf("%d: %v, at %d, %v, %d", pc, out.Pads[0], out.Clock, there, e)
		}
	}
}

// lists are all of a machine's, with their spare room.
func lists(m api.Machine) [][]byte {
	l := [][]byte{m.MainRom, m.AuxRom, m.Ram, m.Own, m.Video}
	for i := range l {
		l[i] = l[i][:cap(l[i])]
	}
	return l
}

func spoil(l ...[]byte) {
	for _, one := range l {
		for i := range one {
			one[i] ^= 0xee
		}
	}
}

// What is handed in stays, with its spare room; what is answered shares nothing with it, when nothing ran, too.
func TestMemory(t *testing.T) {
	m := free(t, "go:\nstb r7, r2, 0\naddi r2, 1\njmp go\n", "go:\nstb r1, r2, 2\njmp go\n")
	for _, l := range []*[]byte{&m.MainRom, &m.AuxRom, &m.Ram, &m.Own, &m.Video} {
		*l = append(bytes.Clone(*l), 1, 2, 3)[:len(*l)]
	}
	inputs := []api.Input{{Clock: 3, Down: 7}, {Clock: 30, Down: 8}, {Clock: -1, Pad: 5}}
	wasInputs, was := slices.Clone(inputs), bytes.Join(lists(m), nil)
	calls := []func() api.Machine{
		func() api.Machine { _, out, _ := Trace(m, inputs[:2], 200); return out },
		func() api.Machine { _, out, _ := Trace(m, inputs[:2], 0); return out },
		func() api.Machine { out, _, _ := Break(m, inputs[:2], 200, 6); return out },
		func() api.Machine { out, _, _ := Break(m, inputs[:2], 200, 10); return out },
		func() api.Machine { out, _, _ := Break(m, inputs[:2], 200, 7); return out },
		func() api.Machine { out, _, _ := Break(m, inputs[:2], 0, 6); return out },
	}
	for i, call := range calls {
		out, again := call(), call()
		want := bytes.Join(lists(again), nil)
		spoil(lists(out)...)
		if !bytes.Equal(bytes.Join(lists(m), nil), was) || !slices.Equal(inputs, wasInputs) {
			t.Fatalf("%d: what was handed in is changed", i)
		}
		if !bytes.Equal(bytes.Join(lists(again), nil), want) || !sameMachine(again, call()) {
			t.Errorf("%d: two answers share memory", i)
		}
	}
}

// Lists that are one when they are handed in aren't any more when they are answered.
func TestSharedLists(t *testing.T) {
	m := held(t, "hlt\n", "")
	one := make([]byte, 256)
	copy(one, m.MainRom)
	m.MainRom, m.AuxRom, m.Ram, m.Own, m.Video = one, one, one[:128], one[:64], one
	for i, call := range []func() api.Machine{
		func() api.Machine { _, out, _ := Trace(m, nil, 0); return out },
		func() api.Machine { out, _, _ := Break(m, nil, 9, 6); return out },
	} {
		out := call()
		out.Ram[5] = 77
		for _, l := range [][]byte{out.MainRom, out.AuxRom, out.Own, out.Video, one} {
			if l[5] == 77 {
				t.Errorf("%d: lists share memory", i)
			}
		}
	}
}
