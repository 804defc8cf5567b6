package lock

import (
	"bytes"
	"slices"
	"strings"
	"testing"

	"marquee/api"
	"marquee/asm"
	"marquee/bus"
)

// program tells the bytes of a text that begins at the place 6; where it names no place for being rung, it waits there.
func program(t *testing.T, text string) []byte {
	t.Helper()
	if !strings.Contains(text, "ring:\n") {
		text += "ring:\nhlt\n"
	}
	text = ".word 6\n.word ring\n.word trap\n" + text + "trap:\nhlt\n"
	rom, at, e := asm.Build(text)
	if e != api.OK {
		t.Fatalf("line %d of %q: %d", at, text, e)
	}
	return rom
}

// held tells a new machine with these programs.
func held(t *testing.T, main, aux string) api.Machine {
	t.Helper()
	m, e := bus.New(program(t, main), program(t, aux))
	if e != api.OK {
		t.Fatalf("New: %d", e)
	}
	return m
}

// free tells a machine whose other processor isn't Held, and begins at once; of both, the register 1 points to the first port.
func free(t *testing.T, main, aux string) api.Machine {
	t.Helper()
	m := held(t, main, aux)
	m.Held, m.Aux.PC = false, 6
	m.Main.R[1], m.Aux.R[1] = 0xd000, 0xd000
	return m
}

// run is one that must be right.
func run(t *testing.T, m api.Machine, clocks int, inputs ...api.Input) (api.Machine, api.Shown) {
	t.Helper()
	out, s, e := Run(m, inputs, clocks)
	if e != api.OK {
		t.Fatalf("Run for %d clocks: %d", clocks, e)
	}
	return out, s
}

// A frame in which nobody does anything.
func TestIdleFrame(t *testing.T) {
	m := held(t, "hlt\n", "hlt\n")
	for i := range m.Video {
		m.Video[i] = byte(7 * i)
	}
	m.S.V[1] = api.Voice{Period: 15, Loud: 0x35}
	m.T = api.Timer{Reload: 2, Count: 2, On: true}
	out, s := run(t, m, 640)
	if len(s.Lines) != 8 || len(s.Writes) != 0 {
		t.Fatalf("%d lines, %d writes", len(s.Lines), len(s.Writes))
	}
	for i, l := range s.Lines {
		if l.Frame != 0 || l.Line != i || i > 3 && l.Pixels == s.Lines[i-4].Pixels {
			t.Errorf("line %d: %+v", i, l)
		}
	}
	if want := bytes.Repeat([]byte{0, 5}, 20); !bytes.Equal(s.Samples, want) {
		t.Errorf("samples: %v, want %v", s.Samples, want)
	}
	want := m
	want.Clock, want.MainReady, want.Main.PC, want.Main.Waits = 640, 642, 8, true
	want.B, want.T = api.Beam{Frame: 1, Rings: true}, api.Timer{Reload: 2, Count: 1, On: true, Rings: true}
	want.S.V[1] = api.Voice{Period: 15, Loud: 0x35}
	if !sameMachine(out, want) {
		t.Errorf("behind a frame: %+v, want %+v", out, want)
	}
}

func TestNoClocks(t *testing.T) {
	m := free(t, "stb r1, r1, 8\n", "stb r1, r1, 2\n")
	m.B.Rings = true
	out, s := run(t, m, 0, api.Input{Pad: 1, Down: 9})
	if !sameMachine(out, m) || !sameShown(s, api.Shown{}) {
		t.Errorf("no clocks: %+v, %+v", out, s)
	}
}

// Lines begin where the beam comes to, of frames as it counts them; the unseen ones aren't shown.
func TestWhichLines(t *testing.T) {
	for _, c := range []struct {
		b      api.Beam
		clocks int
		want   [][2]int
	}{
		{api.Beam{}, 1, [][2]int{{0, 0}}},
		{api.Beam{At: 1}, 63, nil},
		{api.Beam{At: 1}, 64, [][2]int{{0, 1}}},
		{api.Beam{Line: 6, At: 63, Frame: 5}, 2, [][2]int{{5, 7}}},
		{api.Beam{Line: 7, At: 1}, 191, nil},
		{api.Beam{Line: 7, At: 1}, 192, [][2]int{{1, 0}}},
		{api.Beam{Line: 8, Frame: 3}, 193, [][2]int{{4, 0}, {4, 1}}},
		{api.Beam{Line: 9, At: 63, Frame: 18999}, 66, [][2]int{{19000, 0}, {19000, 1}}},
	} {
		m := held(t, "hlt\n", "")
		m.B = c.b
		_, s := run(t, m, c.clocks)
		var got [][2]int
		for _, l := range s.Lines {
			got = append(got, [2]int{l.Frame, l.Line})
		}
		if !slices.Equal(got, c.want) {
			t.Errorf("%+v, %d clocks: lines %v, want %v", c.b, c.clocks, got, c.want)
		}
	}
}

// What is pressed at a clock, the step of that clock finds.
func TestPressed(t *testing.T) {
	// Its order at 12 latches the pads, those at 18 and 24 read them.
	main := "ldi r1, 53248\nldi r2, 1\nstb r1, r2, 0\nldb r3, r1, 0\nldb r4, r1, 1\nhlt\n"
	for _, c := range []struct {
		inputs []api.Input
		r3, r4 uint16
		pads   [2]byte
	}{
		{nil, 0, 0, [2]byte{}},
		{[]api.Input{{Clock: 0, Pad: 0, Down: 0x80}}, 1, 0, [2]byte{0x80, 0}},
		{[]api.Input{{Clock: 18, Pad: 0, Down: 0x81}}, 1, 0, [2]byte{0x81, 0}},
		{[]api.Input{{Clock: 19, Pad: 0, Down: 0x80}}, 0, 0, [2]byte{0x80, 0}},
		{[]api.Input{{Clock: 24, Pad: 1, Down: 0xff}}, 0, 1, [2]byte{0, 0xff}},
		{[]api.Input{{Clock: 25, Pad: 1, Down: 0xff}}, 0, 0, [2]byte{0, 0xff}},
		{[]api.Input{{Clock: 39, Pad: 1, Down: 7}}, 0, 0, [2]byte{0, 7}},
		{[]api.Input{{Clock: 40, Pad: 1, Down: 7}}, 0, 0, [2]byte{0, 0}},
		{[]api.Input{{Clock: 400000, Pad: 1, Down: 7}}, 0, 0, [2]byte{0, 0}},
		{[]api.Input{{Clock: 18, Down: 0x80}, {Clock: 18, Down: 1}, {Clock: 18, Pad: 1, Down: 0x90}}, 0, 1, [2]byte{1, 0x90}},
		{[]api.Input{{Clock: 18, Down: 1}, {Clock: 18, Down: 0x80}, {Clock: 19, Down: 2}}, 1, 0, [2]byte{2, 0}},
	} {
		m, _ := run(t, held(t, main, ""), 40, c.inputs...)
		if m.Main.R[3] != c.r3 || m.Main.R[4] != c.r4 {
			t.Errorf("%v: read %d, %d, want %d, %d", c.inputs, m.Main.R[3], m.Main.R[4], c.r3, c.r4)
		}
		for i, down := range c.pads {
			if m.Pads[i] != (api.Pad{Down: down, Latch: true, Shift: down}) {
				t.Errorf("%v: pad %d: %+v, want %#x", c.inputs, i, m.Pads[i], down)
			}
		}
	}
}

// Once: later nothing is pressed again, so a pad that was read stays so.
func TestPressedOnce(t *testing.T) {
	m := held(t, "stb r1, r2, 0\nldb r3, r1, 0\nldb r3, r1, 0\nhlt\n", "")
	m.Main.R[1] = 0xd000
	m.Pads[0].Latch = true
	out, _ := run(t, m, 30, api.Input{Down: 0x41})
	if out.Pads[0] != (api.Pad{Down: 0x41, Shift: 7}) || out.Main.R[3] != 1 {
		t.Errorf("read twice: %+v, then %d", out.Pads[0], out.Main.R[3])
	}
}

// A line is shown as it is ahead of the steps of its clock.
func TestLineAheadOfSteps(t *testing.T) {
	for _, c := range []struct {
		ready int
		want  []byte
	}{
		{63, []byte{0, 9, 9}},
		{64, []byte{0, 0, 9}},
		{65, []byte{0, 0, 9}},
	} {
		m := held(t, "stb r1, r2, 0\nhlt\n", "")
		m.Main.R[1], m.Main.R[2], m.MainReady = 0xc0a0, 9, c.ready
		_, s := run(t, m, 129)
		var got []byte
		for _, l := range s.Lines {
			got = append(got, l.Pixels[0])
		}
		if !bytes.Equal(got, c.want) {
			t.Errorf("written at %d: %v, want %v", c.ready, got, c.want)
		}
	}
}

// A sample is shown as it is ahead of the steps of its clock; what is written then counts from the next one on.
func TestSampleAheadOfSteps(t *testing.T) {
	for _, c := range []struct {
		ready int
		want  []byte
	}{
		{15, []byte{3, 7, 7}},
		{16, []byte{3, 3, 7}},
		{17, []byte{3, 3, 7}},
	} {
		m := free(t, "hlt\n", "stb r1, r2, 2\nhlt\n")
		m.Aux.R[2], m.AuxReady = 0xab07, c.ready
		m.S.V[0] = api.Voice{Count: 999, Loud: 3, High: true}
		out, s := run(t, m, 33)
		if !bytes.Equal(s.Samples, c.want) {
			t.Errorf("written at %d: %v, want %v", c.ready, s.Samples, c.want)
		}
		if want := []api.Write{{Clock: c.ready, At: 2, Value: 7}}; !slices.Equal(s.Writes, want) {
			t.Errorf("written at %d: %v", c.ready, s.Writes)
		}
		if out.S.Wait != 15 || out.S.V[0] != (api.Voice{Count: 966, Loud: 7, High: true}) {
			t.Errorf("behind it: %+v", out.S)
		}
	}
}

// A voice goes on in the clock at which it was written to, by what was written.
func TestVoiceBehindSteps(t *testing.T) {
	m := free(t, "hlt\n", "stb r1, r2, 1\nhlt\n")
	m.Aux.R[2], m.AuxReady = 40, 5
	m.S.V[0] = api.Voice{Count: 5}
	out, _ := run(t, m, 6)
	if out.S.V[0] != (api.Voice{Period: 40, Count: 40, High: true}) {
		t.Errorf("%+v", out.S.V[0])
	}
}

// The timer rings behind the steps of its clock, and so for those of the next one.
func TestTimerRings(t *testing.T) {
	for _, c := range []struct {
		ready int
		pc    uint16
		then  int
	}{
		{3, 6, 6},
		{4, 6, 7},
		{5, 8, 23},
	} {
		m := held(t, "nop\nring:\nnop\n", "")
		m.Main.May, m.Main.Waits, m.MainReady = true, true, c.ready
		m.T = api.Timer{Reload: 100, Count: 4, On: true}
		out, _ := run(t, m, 6)
		if out.Main.PC != c.pc || out.Main.Waits != (c.pc == 6) || out.MainReady != c.then || !out.T.Rings || out.T.Count != 99 {
			t.Errorf("ready at %d: %+v, then at %d, %+v", c.ready, out.Main, out.MainReady, out.T)
		}
	}
}

// A timer that is set goes on in the same clock.
func TestTimerIsSet(t *testing.T) {
	m := held(t, "stb r1, r2, 4\nhlt\n", "")
	m.Main.R[1], m.Main.R[2], m.T.Reload = 0xd000, 1, 2
	for i, want := range []api.Timer{
		{Reload: 2, Count: 1, On: true}, {Reload: 2, Count: 0, On: true},
		{Reload: 2, Count: 2, On: true, Rings: true}, {Reload: 2, Count: 1, On: true, Rings: true},
	} {
		if out, _ := run(t, m, i+1); out.T != want {
			t.Errorf("behind %d clocks: %+v, want %+v", i+1, out.T, want)
		}
	}
}

// The beam rings when its last seen line is over; who waits for it leaves, and takes that away.
func TestBeamRings(t *testing.T) {
	m := held(t, "ei\nhlt\nring:\nstb r1, r1, 8\nrti\n", "")
	m.Main.R[1], m.Main.R[7] = 0xd000, 0x8080
	for _, c := range []struct {
		clocks int
		rings  bool
		pc     uint16
		ready  int
	}{
		{511, false, 10, 513},
		{512, true, 10, 513},
		{513, true, 10, 513},
		{514, true, 10, 531}, // it left at 513
		{531, true, 10, 531},
		{532, false, 12, 537},
		{538, false, 10, 552}, // and came back at 537, into what follows its waiting
	} {
		out, _ := run(t, m, c.clocks)
		if out.B.Rings != c.rings || out.Main.PC != c.pc || out.MainReady != c.ready {
			t.Errorf("%d clocks: Rings %v, PC %d, ready at %d, want %+v", c.clocks, out.B.Rings, out.Main.PC, out.MainReady, c)
		}
	}
}

// The main one is rung by the timer or the beam, the other one by its mail alone.
func TestWhoIsRung(t *testing.T) {
	for i, c := range []struct {
		set       func(m *api.Machine)
		main, aux bool
	}{
		{func(m *api.Machine) {}, false, false},
		{func(m *api.Machine) { m.T.Rings = true }, true, false},
		{func(m *api.Machine) { m.B.Rings = true }, true, false},
		{func(m *api.Machine) { m.T.Rings, m.B.Rings = true, true }, true, false},
		{func(m *api.Machine) { m.Rung = true }, false, true},
		{func(m *api.Machine) { m.Rung, m.T.Rings, m.B.Rings = true, true, true }, true, true},
	} {
		m := free(t, "nop\nring:\nnop\n", "nop\nring:\nnop\n")
		m.Main.May, m.Main.Waits, m.Aux.May, m.Aux.Waits = true, true, true, true
		c.set(&m)
		out, _ := run(t, m, 1)
		if out.Main.Waits == c.main || out.Aux.Waits == c.aux {
			t.Errorf("%d: main %+v, aux %+v", i, out.Main, out.Aux)
		}
		want := [2]int{3, 5}
		if c.main {
			want[0] = 18
		}
		if c.aux {
			want[1] = 30
		}
		if got := [2]int{out.MainReady, out.AuxReady}; got != want {
			t.Errorf("%d: ready at %v, want %v", i, got, want)
		}
	}
}
