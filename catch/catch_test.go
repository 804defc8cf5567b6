package catch

import (
	"bytes"
	"reflect"
	"slices"
	"strings"
	"testing"

	"marquee/api"
	"marquee/asm"
	"marquee/bus"
	"marquee/lock"
)

// program tells the bytes of a text that begins at the place 6; where it names no place for being rung, it waits there.
func program(t testing.TB, text string) []byte {
	t.Helper()
	if !strings.Contains(text, "ring:\n") {
		text += "ring:\nhlt\n"
	}
	text = ".word 6\n.word ring\n.word trap\n" + text + "trap:\nhlt\n"
	rom, at, e := asm.Build(text)
	if e != api.OK {
		t.Fatalf("line %d of %q: %d", at, text, e)
	}
	return rom
}

// machine tells a new one with these programs; both processors' stacks are in their memories, their registers 1 point to their first port, their registers 3 to the port 16.
func machine(t testing.TB, main, aux string) api.Machine {
	t.Helper()
	m, e := bus.New(program(t, main), program(t, aux))
	if e != api.OK {
		t.Fatalf("New: %d", e)
	}
	m.Main.R = [8]uint16{1: 0xd000, 3: 0xd010, 7: 0x8080}
	m.Aux.R, m.Aux.PC = [8]uint16{1: 0xd000, 3: 0xd010, 7: 0x8040}, 6
	return m
}

// free tells such a machine whose other processor isn't Held.
func free(t testing.TB, main, aux string) api.Machine {
	t.Helper()
	m := machine(t, main, aux)
	m.Held = false
	return m
}

// run is one that must be right.
func run(t *testing.T, m api.Machine, clocks int, inputs ...api.Input) (api.Machine, api.Shown) {
	t.Helper()
	out, s, e := Run(m, inputs, clocks)
	if e != api.OK {
		t.Fatalf("Run for %d clocks: %d", clocks, e)
	}
	return out, s
}

// plain tells lists without anything in them as nil: either is right.
func plain(m api.Machine) api.Machine {
	for _, l := range []*[]byte{&m.MainRom, &m.AuxRom, &m.Ram, &m.Own, &m.Video} {
		if len(*l) == 0 {
			*l = nil
		}
	}
	return m
}

func sameMachine(a, b api.Machine) bool { return reflect.DeepEqual(plain(a), plain(b)) }

func sameShown(a, b api.Shown) bool {
	return slices.Equal(a.Lines, b.Lines) && bytes.Equal(a.Samples, b.Samples) && slices.Equal(a.Writes, b.Writes)
}

// asLock holds a run against that clock by clock.
func asLock(t *testing.T, what string, m api.Machine, clocks int, inputs ...api.Input) (api.Machine, api.Shown) {
	t.Helper()
	got, shown, e := Run(m, inputs, clocks)
	want, wanted, f := lock.Run(m, inputs, clocks)
	if e != f || !sameMachine(got, want) || !sameShown(shown, wanted) {
		t.Fatalf("%s, %d clocks, %v:\n%+v\n%+v, %d, want\n%+v\n%+v, %d", what, clocks, inputs, got, shown, e, want, wanted, f)
	}
	return got, shown
}

// A frame in which nobody does anything, by hand.
func TestIdleFrame(t *testing.T) {
	m := machine(t, "hlt\n", "hlt\n")
	for i := range m.Video {
		m.Video[i] = byte(7 * i)
	}
	m.S.V[1] = api.Voice{Period: 15, Loud: 0x35}
	m.T = api.Timer{Reload: 2, Count: 2, On: true}
	out, s := run(t, m, 640)
	if len(s.Lines) != 8 || len(s.Writes) != 0 {
		t.Fatalf("%d lines, %d writes", len(s.Lines), len(s.Writes))
	}
	for i, l := range s.Lines {
		if l.Frame != 0 || l.Line != i || i > 3 && l.Pixels == s.Lines[i-4].Pixels {
			t.Errorf("line %d: %+v", i, l)
		}
	}
	if want := bytes.Repeat([]byte{0, 5}, 20); !bytes.Equal(s.Samples, want) {
		t.Errorf("samples: %v, want %v", s.Samples, want)
	}
	want := m
	want.Clock, want.MainReady, want.Main.PC, want.Main.Waits = 640, 642, 8, true
	want.B, want.T = api.Beam{Frame: 1, Rings: true}, api.Timer{Reload: 2, Count: 1, On: true, Rings: true}
	if !sameMachine(out, want) {
		t.Errorf("behind a frame: %+v, want %+v", out, want)
	}
}

// No clocks: nothing happens, not even what is due.
func TestNoClocks(t *testing.T) {
	m := free(t, "stb r1, r1, 8\n", "stb r1, r1, 2\n")
	m.B.Rings = true
	out, s := run(t, m, 0, api.Input{Pad: 1, Down: 9})
	if !sameMachine(out, m) || !sameShown(s, api.Shown{}) {
		t.Errorf("no clocks: %+v, %+v", out, s)
	}
}

// Who sleeps is woken when the timer rings, at the first of its steps from then on, wherever these are.
func TestTimerWakes(t *testing.T) {
	for count := range 70 {
		for ready := range 8 {
			m := machine(t, "nop\nring:\nstb r1, r2, 4\nrti\n", "")
			m.Main.May, m.Main.Waits, m.MainReady, m.Main.R[2] = true, true, ready, 3
			m.T = api.Timer{Reload: 40, Count: uint16(count), On: true}
			for clocks := count; clocks < count+6; clocks++ {
				asLock(t, "rung by the timer", m, clocks)
			}
			out, _ := asLock(t, "rung by the timer", m, count+5)
			// It rings for the steps from count + 1 on; of three clocks in a row, one is that of a step.
			at := count + 1
			for at < ready || (at-ready)%3 != 0 {
				at++
			}
			if slept := at >= count+5; out.Main.Waits != slept || !slept && out.MainReady != at+18 {
				t.Errorf("Count %d, ready at %d: Waits %v, ready at %d, want %d", count, ready, out.Main.Waits, out.MainReady, at+18)
			}
			asLock(t, "rung by the timer, again and again", m, 700)
		}
	}
}

// Who may not be interrupted sleeps on; whoever else rings.
func TestNobodyWakes(t *testing.T) {
	m := free(t, "hlt\nring:\nnop\n", "hlt\nring:\nnop\n")
	m.T = api.Timer{On: true}
	m.Rung = true
	out, _ := asLock(t, "di", m, 2000)
	if !out.Main.Waits || !out.Aux.Waits || out.MainReady != 2001 || out.AuxReady != 2000 {
		t.Errorf("%+v", out)
	}
}

// The beam wakes, too: when its last seen line is over.
func TestBeamWakes(t *testing.T) {
	for ready := range 4 {
		m := machine(t, "go:\nei\nhlt\njmp go\nring:\nstb r1, r1, 8\nrti\n", "")
		m.MainReady = ready
		for clocks := 505; clocks < 560; clocks++ {
			asLock(t, "rung by the beam", m, clocks)
		}
		out, _ := asLock(t, "rung by the beam", m, 640)
		if out.B.Rings || !out.Main.Waits || out.Main.PC != 10 {
			t.Errorf("ready at %d: %+v, %+v", ready, out.B, out.Main)
		}
		asLock(t, "rung by the beam", m, 9000)
	}
}

// Mail wakes the other processor, in the clock of the main one's step, if its own is due then.
func TestMailWakes(t *testing.T) {
	for ready := range 40 {
		for first := range 12 {
			m := free(t, "stb r3, r2, 1\nhlt\n", "go:\nhlt\njmp go\nring:\nldb r2, r3, 8\nstb r1, r2, 2\nrti\n")
			m.Main.R[2], m.MainReady = 55, ready
			m.Aux.May, m.Aux.Waits, m.AuxReady = true, true, first
			out, s := asLock(t, "mail", m, 150)
			at := ready
			for at < first || (at-first)%5 != 0 {
				at++
			}
			if want := []api.Write{{Clock: at + 40, At: 2, Value: 55}}; !slices.Equal(s.Writes, want) || out.Rung {
				t.Errorf("sent at %d, ready at %d: %v, want %v", ready, first, s.Writes, want)
			}
		}
	}
}

// Who is held while it sleeps keeps the clock of its next step; who is let go begins at once.
func TestHeldAsleep(t *testing.T) {
	for ready := range 30 {
		m := free(t, "stb r3, r2, 0\nnop\nnop\nnop\nnop\nnop\nstb r3, r4, 0\nhlt\n", "addi r5, 1\nhlt\n")
		m.Main.R[2], m.Main.R[4], m.MainReady = 2, 1, ready
		m.Aux.May, m.Aux.Waits, m.AuxReady = true, true, 3
		for clocks := range 70 {
			asLock(t, "held", m, clocks)
		}
		out, _ := run(t, m, ready+20)
		at := 3
		for at < ready {
			at += 5
		}
		if !out.Held || out.AuxReady != at {
			t.Errorf("held at %d: %v, ready at %d, want %d", ready, out.Held, out.AuxReady, at)
		}
		out, _ = run(t, m, ready+23)
		if out.Held || out.AuxReady != ready+21+5 || out.Aux.R[5] != 1 {
			t.Errorf("let go at %d: %v, ready at %d, r5 %d", ready+21, out.Held, out.AuxReady, out.Aux.R[5])
		}
	}
}

// Samples that are due at an event are shown as they are ahead of its steps, and once.
func TestSamplesAtEvents(t *testing.T) {
	for wait := range 16 {
		for ready := range 40 {
			m := free(t, "hlt\n", "stb r1, r2, 2\nhlt\n")
			m.Aux.R[2], m.AuxReady, m.S.Wait = 7, ready, wait
			m.S.V[0] = api.Voice{Count: 9999, Loud: 3, High: true}
			_, s := asLock(t, "a sample", m, 64)
			var want []byte
			for at := wait; at < 64; at += 16 {
				if at <= ready {
					want = append(want, 3)
				} else {
					want = append(want, 7)
				}
			}
			if !bytes.Equal(s.Samples, want) {
				t.Errorf("Wait %d, written at %d: %v, want %v", wait, ready, s.Samples, want)
			}
		}
	}
}

// What is pressed at a clock is, whether or not anything else is due then; what comes behind the end isn't.
func TestPressed(t *testing.T) {
	m := machine(t, "ldb r5, r1, 0\nhlt\n", "")
	m.Pads[0].Latch, m.MainReady = true, 50
	for _, c := range []struct {
		inputs []api.Input
		r5     uint16
		down   byte
	}{
		{nil, 0, 0},
		{[]api.Input{{Down: 0x80}}, 1, 0x80},
		{[]api.Input{{Clock: 49, Down: 0x80}, {Clock: 50, Pad: 1, Down: 3}}, 1, 0x80},
		{[]api.Input{{Clock: 50, Down: 0x80}}, 1, 0x80},
		{[]api.Input{{Clock: 51, Down: 0x80}}, 0, 0x80},
		{[]api.Input{{Clock: 50, Down: 0x80}, {Clock: 50, Down: 1}}, 0, 1},
		{[]api.Input{{Clock: 98, Down: 1}, {Clock: 99, Down: 2}}, 0, 2},
		{[]api.Input{{Clock: 98, Down: 1}, {Clock: 100, Down: 2}}, 0, 1},
		{[]api.Input{{Clock: 400000, Down: 2}}, 0, 0},
	} {
		out, _ := asLock(t, "pressed", m, 100, c.inputs...)
		if out.Main.R[5] != c.r5 || out.Pads[0].Down != c.down {
			t.Errorf("%v: read %d, %#x", c.inputs, out.Main.R[5], out.Pads[0].Down)
		}
	}
}

// events tells how many a run has.
func events(t *testing.T, m api.Machine, clocks int, inputs ...api.Input) (n int) {
	t.Helper()
	c, e := lock.Open(m, inputs, clocks)
	if e != api.OK {
		t.Fatalf("Open: %d", e)
	}
	for r := newRunner(c, m.Clock+clocks); !r.over(); n++ {
		ahead := c.Machine.Clock
		if r.event(); c.Machine.Clock <= ahead {
			t.Fatalf("from %d on to %d", ahead, c.Machine.Clock)
		}
	}
	return n
}

// While nothing is due, no clock is looked at: that is what makes it quicker.
func TestFewEvents(t *testing.T) {
	asleep := free(t, "hlt\n", "hlt\n")
	deaf := free(t, "hlt\n", "hlt\n")
	deaf.T.On = true
	rung := free(t, "ei\nhlt\nring:\nstb r1, r2, 4\nhlt\n", "hlt\n")
	rung.T, rung.Main.R[2] = api.Timer{Reload: 199, Count: 199, On: true}, 3
	held := machine(t, "hlt\n", "nop\n")
	moving := machine(t, "go:\nstb r3, r2, -2\njmp go\n", "")
	moving.Main.R[2] = 255
	for _, c := range []struct {
		what   string
		m      api.Machine
		inputs []api.Input
		most   int
	}{
		{"asleep", asleep, nil, 100},
		{"deaf", deaf, nil, 100},
		{"rung", rung, nil, 105},
		{"held", held, nil, 100},
		{"moving", moving, nil, 126},
		{"pressed", asleep, []api.Input{{Clock: 63}, {Clock: 65}, {Clock: 65}, {Clock: 128}, {Clock: 9999}}, 103},
	} {
		if n := events(t, c.m, 6400, c.inputs...); n < 100 || n > c.most {
			t.Errorf("%s: %d events in 100 lines, want at most %d", c.what, n, c.most)
		}
		asLock(t, c.what, c.m, 6400, c.inputs...)
	}
}
