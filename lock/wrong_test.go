package lock

import (
	"bytes"
	"math"
	"slices"
	"testing"

	"marquee/api"
)

// inputsAt tells inputs at these clocks.
func inputsAt(clocks ...int) (l []api.Input) {
	for i, clock := range clocks {
		l = append(l, api.Input{Clock: clock, Pad: i % 2, Down: byte(i)})
	}
	return l
}

func TestCheckInputs(t *testing.T) {
	for _, c := range []struct {
		inputs []api.Input
		clock  int
		want   api.Errno
	}{
		{nil, 0, api.OK},
		{[]api.Input{}, 200000, api.OK},
		{inputsAt(0), 0, api.OK},
		{inputsAt(7, 7, 7, 8), 7, api.OK},
		{inputsAt(6), 7, api.ErrRange},
		{inputsAt(-1), 0, api.ErrRange},
		{inputsAt(math.MinInt), 0, api.ErrRange},
		{inputsAt(400000), 0, api.OK},
		{inputsAt(400000, 400000), 200000, api.OK},
		{inputsAt(400001), 0, api.ErrRange},
		{inputsAt(5, math.MaxInt), 0, api.ErrRange},
		{inputsAt(5, 4), 0, api.ErrRange},
		{inputsAt(5, 9, 8), 0, api.ErrRange},
		{inputsAt(5, 9, 5), 0, api.ErrRange},
		{[]api.Input{{Pad: 2}}, 0, api.ErrWho},
		{[]api.Input{{Pad: -1}}, 0, api.ErrWho},
		{[]api.Input{{Pad: math.MaxInt}}, 0, api.ErrWho},
		{[]api.Input{{Pad: math.MinInt}}, 0, api.ErrWho},
		{[]api.Input{{Clock: 3, Pad: 2}}, 4, api.ErrRange},
		{[]api.Input{{Clock: 4, Pad: 2}, {Clock: 3}}, 4, api.ErrWho},
		{[]api.Input{{Clock: 4}, {Clock: 3}, {Clock: 5, Pad: 2}}, 4, api.ErrRange},
		{[]api.Input{{Clock: 4}, {Clock: 5, Pad: 3}, {Clock: 1}}, 4, api.ErrWho},
		{make([]api.Input, 40), 0, api.OK},
		{make([]api.Input, 40), 1, api.ErrRange},
		{make([]api.Input, 41), 0, api.ErrMany},
		{make([]api.Input, 41), 1, api.ErrMany},
		{slices.Repeat([]api.Input{{Pad: 2}}, 1000), 0, api.ErrMany},
	} {
		if e := CheckInputs(c.inputs, c.clock); e != c.want {
			t.Errorf("CheckInputs(%v, %d): %d, want %d", c.inputs, c.clock, e, c.want)
		}
		m := held(t, "hlt\n", "")
		m.Clock = c.clock
		out, s, e := Run(m, c.inputs, 0)
		if e != c.want || (e != api.OK) != sameMachine(out, api.Machine{}) || !sameShown(s, api.Shown{}) {
			t.Errorf("Run of %v at %d: %+v, %+v, %d, want %d", c.inputs, c.clock, out, s, e, c.want)
		}
	}
}

func TestManyClocks(t *testing.T) {
	for _, c := range []struct {
		clock, clocks int
		want          api.Errno
	}{
		{0, 0, api.OK},
		{0, 20000, api.OK},
		{0, 20001, api.ErrRange},
		{0, -1, api.ErrRange},
		{0, math.MinInt, api.ErrRange},
		{0, math.MaxInt, api.ErrRange},
		{1, math.MaxInt, api.ErrRange},
		{180000, 20000, api.OK},
		{180001, 20000, api.ErrRange},
		{180001, 19999, api.OK},
		{199999, 1, api.OK},
		{199999, 2, api.ErrRange},
		{200000, 0, api.OK},
		{200000, 1, api.ErrRange},
		{200000, -1, api.ErrRange},
	} {
		m := held(t, "hlt\n", "")
		m.Clock = c.clock
		out, s, e := Run(m, nil, c.clocks)
		if e != c.want {
			t.Errorf("%d clocks from %d on: %d, want %d", c.clocks, c.clock, e, c.want)
		}
		if e != api.OK && (!sameMachine(out, api.Machine{}) || !sameShown(s, api.Shown{})) {
			t.Errorf("%d clocks from %d on: %+v, %+v", c.clocks, c.clock, out, s)
		}
		if e == api.OK && (out.Clock != c.clock+c.clocks || len(s.Samples) != (c.clocks+15)/16) {
			t.Errorf("%d clocks from %d on: to %d, %d samples", c.clocks, c.clock, out.Clock, len(s.Samples))
		}
	}
}

// Of several things that are wrong, the machine comes first, then the inputs, then the clocks.
func TestWhichError(t *testing.T) {
	set := func(do func(m *api.Machine)) api.Machine {
		m := held(t, "hlt\n", "")
		do(&m)
		return m
	}
	right := set(func(*api.Machine) {})
	for i, c := range []struct {
		m      api.Machine
		inputs []api.Input
		clocks int
		want   api.Errno
	}{
		{api.Machine{}, nil, 1, api.ErrForm},
		{set(func(m *api.Machine) { m.AuxRom = make([]byte, 1025) }), []api.Input{{Pad: 2}}, -1, api.ErrMany},
		{set(func(m *api.Machine) { m.Video = nil }), make([]api.Input, 41), -1, api.ErrForm},
		{set(func(m *api.Machine) { m.S.Wait = 16 }), make([]api.Input, 41), 1, api.ErrRange},
		{set(func(m *api.Machine) { m.B.Line = 10 }), make([]api.Input, 41), 1, api.ErrRange},
		{set(func(m *api.Machine) { m.B.Frame = 20001 }), []api.Input{{Pad: 2}}, 1, api.ErrRange},
		{set(func(m *api.Machine) { m.Clock = -1 }), []api.Input{{Pad: 2}}, 1, api.ErrRange},
		{set(func(m *api.Machine) { m.Clock = math.MaxInt }), []api.Input{{Pad: 2}}, math.MaxInt, api.ErrRange},
		{set(func(m *api.Machine) { m.MainReady = 20001 }), []api.Input{{Pad: 2}}, 1, api.ErrRange},
		{right, []api.Input{{Pad: 2}}, -1, api.ErrWho},
		{right, make([]api.Input, 41), 20001, api.ErrMany},
		{right, nil, 20001, api.ErrRange},
	} {
		out, s, e := Run(c.m, c.inputs, c.clocks)
		if e != c.want || !sameMachine(out, api.Machine{}) || !sameShown(s, api.Shown{}) {
			t.Errorf("%d: %+v, %+v, %d, want %d", i, out, s, e, c.want)
		}
	}
}

// Of frames beyond all counting nothing is promised, but that it ends, and that the same comes of the same.
func TestLastFrames(t *testing.T) {
	for _, frame := range []int{19000, 19001, 19999, 20000} {
		m := held(t, "hlt\n", "")
		m.B = api.Beam{Line: 9, At: 60, Frame: frame}
		out, s := run(t, m, 20000)
		again, more := run(t, m, 20000)
		if !sameMachine(out, again) || !sameShown(s, more) || out.Clock != 20000 {
			t.Errorf("from the frame %d on: %+v, %+v", frame, out, again)
		}
		if frame == 19000 && out.B != (api.Beam{Line: 2, At: 28, Frame: 19032, Rings: true}) {
			t.Errorf("from the frame %d on: %+v", frame, out.B)
		}
	}
}

// lists are all of a machine's, with their spare room.
func lists(m api.Machine) [][]byte {
	l := [][]byte{m.MainRom, m.AuxRom, m.Ram, m.Own, m.Video}
	for i := range l {
		l[i] = l[i][:cap(l[i])]
	}
	return l
}

func spoil(l ...[]byte) {
	for _, one := range l {
		for i := range one {
			one[i] ^= 0xee
		}
	}
}

// What is handed in stays, with its spare room; what is answered shares nothing with it, nor its lists with each other.
func TestMemory(t *testing.T) {
	next := noise(11)
	m := lively(next)
	for _, l := range []*[]byte{&m.MainRom, &m.AuxRom, &m.Ram, &m.Own, &m.Video} {
		*l = append(bytes.Clone(*l), 1, 2, 3)[:len(*l)]
	}
	inputs := append(anyInputs(next, m.Clock), api.Input{Clock: -1, Pad: 5})
	inputs = inputs[:len(inputs)-1]
	wasMachine, wasInputs := twin(m), slices.Clone(inputs[:cap(inputs)])
	wasLists := bytes.Join(lists(m), nil)
	out, s := run(t, m, 3000, inputs...)
	again, t2 := run(t, m, 3000, inputs...)
	spoil(lists(out)...)
	spoil(s.Samples[:cap(s.Samples)])
	if !sameMachine(m, wasMachine) || !bytes.Equal(bytes.Join(lists(m), nil), wasLists) || !slices.Equal(inputs[:cap(inputs)], wasInputs) {
		t.Fatalf("what was handed in is changed")
	}
	// Turned around once each, they differ from those that weren't everywhere.
	spoil(lists(again)...)
	spoil(t2.Samples[:cap(t2.Samples)])
	if !sameMachine(out, again) || !sameShown(s, t2) {
		t.Errorf("two answers share memory")
	}
}

// Lists that are one when they are handed in aren't any more when they are answered.
func TestSharedLists(t *testing.T) {
	m := held(t, "stb r1, r2, 0\nhlt\n", "")
	one := make([]byte, 256)
	copy(one, m.MainRom)
	m.MainRom, m.AuxRom, m.Ram, m.Own, m.Video = one, one, one[:128], one[:64], one
	m.Main.R[1], m.Main.R[2] = 0x8040, 9
	out, _ := run(t, m, 1)
	if out.Ram[64] != 9 || out.MainRom[64] != 0 || out.AuxRom[64] != 0 || out.Video[64] != 0 || one[64] != 0 {
		t.Errorf("a byte in Ram is in more: %d, %d, %d, %d", out.MainRom[64], out.AuxRom[64], out.Video[64], one[64])
	}
}
