package save

import (
	"bytes"
	"slices"
	"testing"

	"marquee/api"
	"marquee/asm"
	"marquee/bus"
	"marquee/catch"
	"marquee/lock"
)

// A main program that asks for all there is: it lets the other processor go, sets the timer, and, when it is rung, tells buttons by mail, begins a transfer, and grants its memory, or doesn't.
const mainText = `.word 6
.word ring
.word ring
ldi r7, 32896
ldi r1, 53248
ldi r3, 53264
ldi r2, 37
stb r1, r2, 3
ldi r2, 1
stb r1, r2, 4
stb r3, r2, 0
go:
ei
addi r5, 3
mul r5, r5
hlt
jmp go
ring:
stb r1, r1, 8
ldi r2, 3
stb r1, r2, 4
stb r1, r2, 0
ldi r2, 0
stb r1, r2, 0
ldb r2, r1, 0
ldb r4, r1, 1
add r5, r4
stb r3, r5, 1
ldi r2, 128
stb r1, r2, 10
stb r1, r5, 13
ldi r2, 9
stb r1, r2, 14
ldi r2, 1
and r2, r5
stb r3, r2, 0
rti
`

// Another program that plays what comes by mail, and comes to the main memory.
const auxText = `.word 6
.word ring
.word ring
ldi r7, 32832
ldi r1, 53248
ldi r3, 53264
ldi r2, 9
stb r1, r2, 2
stb r1, r2, 10
stb r3, r2, 2
stb r3, r2, 4
go:
ei
addi r4, 1
hlt
jmp go
ring:
ldb r2, r3, 8
stb r1, r2, 1
stb r1, r4, 9
stb r3, r2, 8
ldi r6, 49152
add r6, r4
stb r6, r2, 0
ldb r5, r6, 1
rti
`

// lively tells a machine with these programs.
func lively(t testing.TB) api.Machine {
	t.Helper()
	var roms [2][]byte
	for i, text := range [2]string{mainText, auxText} {
		rom, at, e := asm.Build(text)
		if e != api.OK {
			t.Fatalf("line %d: %d", at, e)
		}
		roms[i] = rom
	}
	m, e := bus.New(roms[0], roms[1])
	if e != api.OK {
		t.Fatalf("New: %d", e)
	}
	for i := range m.Video {
		m.Video[i] = byte(7 * i)
	}
	return m
}

// run is how a machine goes on.
type run func(m api.Machine, inputs []api.Input, clocks int) (api.Machine, api.Shown, api.Errno)

// right is a run that must be, of those inputs that are still to come.
func right(t testing.TB, by run, m api.Machine, clocks int, inputs []api.Input) (api.Machine, api.Shown) {
	t.Helper()
	var coming []api.Input
	for _, in := range inputs {
		if in.Clock >= m.Clock {
			coming = append(coming, in)
		}
	}
	out, s, e := by(m, coming, clocks)
	if e != api.OK {
		t.Fatalf("%d clocks: %d", clocks, e)
	}
	return out, s
}

// both tells what was shown in two parts as one.
func both(a, b api.Shown) api.Shown {
	a.Lines = append(a.Lines, b.Lines...)
	a.Samples = append(a.Samples, b.Samples...)
	a.Writes = append(a.Writes, b.Writes...)
	return a
}

func sameShown(a, b api.Shown) bool {
	return slices.Equal(a.Lines, b.Lines) && bytes.Equal(a.Samples, b.Samples) && slices.Equal(a.Writes, b.Writes)
}

var pressed = []api.Input{{Clock: 5, Down: 0x81}, {Clock: 300, Pad: 1, Down: 0x40}, {Clock: 511, Down: 0xff}, {Clock: 900, Down: 3}}

// Saved at any clock, and read again: a machine goes on, and shows, as it would have.
func TestGoesOn(t *testing.T) {
	const clocks = 1500
	for _, by := range []run{lock.Run, catch.Run} {
		m := lively(t)
		want, wanted := right(t, by, m, clocks, pressed)
		if len(wanted.Lines) < 16 || len(wanted.Writes) < 20 || want.Mail == m.Mail || bytes.Equal(want.Video, m.Video) || bytes.Equal(want.Ram, m.Ram) {
			t.Fatalf("a dull machine: %+v, %+v", want, wanted)
		}
		for first := range clocks + 1 {
			half, s := right(t, by, m, first, pressed)
			half, e := Of(saved(t, half))
			if e != api.OK {
				t.Fatalf("saved at %d: %d", first, e)
			}
			got, more := right(t, by, half, clocks-first, pressed)
			if !sameMachine(got, want) || !sameShown(both(s, more), wanted) {
				t.Fatalf("saved at %d:\n%+v, want\n%+v", first, got, want)
			}
		}
	}
}

// Saved and read again behind each clock: as if it never was.
func TestSavedAgainAndAgain(t *testing.T) {
	m, s := lively(t), api.Shown{}
	want, wanted := right(t, lock.Run, m, 1200, pressed)
	for range 1200 {
		later, more := right(t, lock.Run, m, 1, pressed)
		s = both(s, more)
		again, e := Of(saved(t, later))
		if e != api.OK {
			t.Fatalf("saved at %d: %d", later.Clock, e)
		}
		m = again
	}
	if !sameMachine(m, want) || !sameShown(s, wanted) {
		t.Errorf("clock by clock:\n%+v, want\n%+v", m, want)
	}
}

// Machines of all kinds, for some clocks.
func TestAnyGoesOn(t *testing.T) {
	next := noise(12)
	for range 300 {
		m := anyMachine(next, next(300), next(300))
		m.B.Frame, m.Clock = next(19000), next(api.MaxTime-1000)
		m.MainReady, m.AuxReady = m.Clock+next(20), m.Clock+next(20)
		again, e := Of(saved(t, m))
		if e != api.OK {
			t.Fatalf("%+v: %d", m, e)
		}
		want, wanted := right(t, lock.Run, m, 700, nil)
		got, shown := right(t, lock.Run, again, 700, nil)
		if !sameMachine(got, want) || !sameShown(shown, wanted) {
			t.Fatalf("%+v, want\n%+v", got, want)
		}
	}
}
