package catch

import (
	"bytes"
	"math"
	"slices"
	"testing"

	"marquee/api"
)

// refused holds a run against its error: all else must be zero.
func refused(t *testing.T, m api.Machine, inputs []api.Input, clocks int, want api.Errno) {
	t.Helper()
	out, s, e := Run(m, inputs, clocks)
	if e != want || !sameMachine(out, api.Machine{}) || !sameShown(s, api.Shown{}) {
		t.Errorf("%d clocks, %v: %+v, %+v, %d, want %d", clocks, inputs, out, s, e, want)
	}
}

// Of several things that are wrong, the machine comes first, then the inputs, then the clocks.
func TestWhichError(t *testing.T) {
	set := func(do func(m *api.Machine)) api.Machine {
		m := machine(t, "hlt\n", "")
		do(&m)
		return m
	}
	right := set(func(*api.Machine) {})
	for _, c := range []struct {
		m      api.Machine
		inputs []api.Input
		clocks int
		want   api.Errno
	}{
		{api.Machine{}, nil, 1, api.ErrForm},
		{set(func(m *api.Machine) { m.MainRom = make([]byte, 1025) }), nil, 1, api.ErrMany},
		{set(func(m *api.Machine) { m.AuxRom = make([]byte, 1025) }), []api.Input{{Pad: 2}}, -1, api.ErrMany},
		{set(func(m *api.Machine) { m.Video = nil }), make([]api.Input, 41), -1, api.ErrForm},
		{set(func(m *api.Machine) { m.Ram = make([]byte, 129) }), nil, 0, api.ErrForm},
		{set(func(m *api.Machine) { m.Own = m.Own[1:] }), nil, 0, api.ErrForm},
		{set(func(m *api.Machine) { m.S.Wait = 16 }), make([]api.Input, 41), 1, api.ErrRange},
		{set(func(m *api.Machine) { m.S.Wait = -1 }), nil, 1, api.ErrRange},
		{set(func(m *api.Machine) { m.B.Line = 10 }), make([]api.Input, 41), 1, api.ErrRange},
		{set(func(m *api.Machine) { m.B.At = 64 }), nil, 1, api.ErrRange},
		{set(func(m *api.Machine) { m.B.Frame = 20001 }), []api.Input{{Pad: 2}}, 1, api.ErrRange},
		{set(func(m *api.Machine) { m.Clock = -1 }), []api.Input{{Pad: 2}}, 1, api.ErrRange},
		{set(func(m *api.Machine) { m.Clock = math.MaxInt }), []api.Input{{Pad: 2}}, math.MaxInt, api.ErrRange},
		{set(func(m *api.Machine) { m.MainReady = 20001 }), []api.Input{{Pad: 2}}, 1, api.ErrRange},
		{set(func(m *api.Machine) { m.AuxReady = -1 }), nil, 1, api.ErrRange},
		{set(func(m *api.Machine) { m.Clock = 5 }), []api.Input{{Clock: 4}}, 1, api.ErrRange},
		{right, []api.Input{{Pad: 2}}, -1, api.ErrWho},
		{right, []api.Input{{Pad: -1}, {Clock: -1}}, 1, api.ErrWho},
		{right, []api.Input{{Clock: 5}, {Clock: 4}, {Clock: 5, Pad: 2}}, 1, api.ErrRange},
		{right, []api.Input{{Clock: 400001}}, 1, api.ErrRange},
		{right, make([]api.Input, 41), 20001, api.ErrMany},
		{right, nil, 20001, api.ErrRange},
		{right, nil, -1, api.ErrRange},
		{right, nil, math.MinInt, api.ErrRange},
		{right, nil, math.MaxInt, api.ErrRange},
		{set(func(m *api.Machine) { m.Clock = 180001 }), nil, 20000, api.ErrRange},
		{set(func(m *api.Machine) { m.Clock = 200000 }), nil, 1, api.ErrRange},
	} {
		refused(t, c.m, c.inputs, c.clocks, c.want)
	}
}

// The last clocks, and processors that are ready beyond them, or were long ago.
func TestLastClocks(t *testing.T) {
	for _, ready := range []int{0, 179999, 180000, 180001, 199999, 200000} {
		m := free(t, "go:\naddi r5, 1\nhlt\njmp go\n", "go:\nstb r1, r5, 2\naddi r5, 1\njmp go\n")
		m.Clock, m.MainReady, m.AuxReady = 180000, ready, ready
		m.T = api.Timer{Reload: 0xffff, Count: 0xffff, On: true}
		out, _ := asLock(t, "the last clocks", m, 20000, api.Input{Clock: 199999, Down: 1}, api.Input{Clock: 200000, Down: 2})
		if out.Clock != 200000 || out.Pads[0].Down != 1 {
			t.Errorf("ready at %d: to %d, %+v", ready, out.Clock, out.Pads[0])
		}
		refused(t, out, nil, 1, api.ErrRange)
		asLock(t, "at the end", out, 0, api.Input{Clock: 200000})
	}
}

// Of frames beyond all counting nothing is promised, but that it ends, and that the same comes of the same.
func TestLastFrames(t *testing.T) {
	for _, frame := range []int{18999, 19000, 19001, 19999, 20000} {
		m := free(t, "go:\nhlt\njmp go\nring:\nstb r1, r1, 8\nrti\n", "hlt\n")
		m.Main.May, m.B = true, api.Beam{Line: 9, At: 60, Frame: frame}
		out, s := run(t, m, api.MaxClocks)
		again, more := run(t, m, api.MaxClocks)
		if !sameMachine(out, again) || !sameShown(s, more) || out.Clock != api.MaxClocks {
			t.Errorf("from the frame %d on: %+v, %+v", frame, out, again)
		}
		if frame <= 19000 {
			asLock(t, "the last frames", m, api.MaxClocks)
		}
	}
}

// lists are all of a machine's, with their spare room.
func lists(m api.Machine) [][]byte {
	l := [][]byte{m.MainRom, m.AuxRom, m.Ram, m.Own, m.Video}
	for i := range l {
		l[i] = l[i][:cap(l[i])]
	}
	return l
}

func spoil(l ...[]byte) {
	for _, one := range l {
		for i := range one {
			one[i] ^= 0xee
		}
	}
}

// What is handed in stays, with its spare room; what is answered shares nothing with it, nor its lists with each other.
func TestMemory(t *testing.T) {
	next := noise(18)
	m := anyMachine(next, sleepyOrder)
	for _, l := range []*[]byte{&m.MainRom, &m.AuxRom, &m.Ram, &m.Own, &m.Video} {
		*l = append(bytes.Clone(*l), 1, 2, 3)[:len(*l)]
	}
	inputs := append(anyInputs(next, m.Clock), api.Input{Clock: -1, Pad: 5})
	inputs = inputs[:len(inputs)-1]
	wasInputs, wasLists := slices.Clone(inputs[:cap(inputs)]), bytes.Join(lists(m), nil)
	out, s := run(t, m, 3000, inputs...)
	again, more := run(t, m, 3000, inputs...)
	spoil(lists(out)...)
	spoil(s.Samples[:cap(s.Samples)])
	if !bytes.Equal(bytes.Join(lists(m), nil), wasLists) || !slices.Equal(inputs[:cap(inputs)], wasInputs) {
		t.Fatalf("what was handed in is changed")
	}
	// Turned around once each: a list that shares memory with another one is turned back.
	spoil(lists(again)...)
	spoil(more.Samples[:cap(more.Samples)])
	if !sameMachine(out, again) || !sameShown(s, more) {
		t.Errorf("two answers share memory")
	}
}

// Lists that are one when they are handed in aren't any more when they are answered.
func TestSharedLists(t *testing.T) {
	m := machine(t, "stb r1, r2, 0\nhlt\n", "")
	one := make([]byte, 256)
	copy(one, m.MainRom)
	m.MainRom, m.AuxRom, m.Ram, m.Own, m.Video = one, one, one[:128], one[:64], one
	m.Main.R[1], m.Main.R[2] = 0x8040, 9
	out, _ := run(t, m, 1)
	if out.Ram[64] != 9 || out.MainRom[64] != 0 || out.AuxRom[64] != 0 || out.Video[64] != 0 || one[64] != 0 {
		t.Errorf("a byte in Ram is in more: %d, %d, %d, %d", out.MainRom[64], out.AuxRom[64], out.Video[64], one[64])
	}
}

// Without programs, processors read FF everywhere, which is a trap; again and again.
func TestNoPrograms(t *testing.T) {
	m := machine(t, "", "")
	m.MainRom, m.AuxRom, m.Held = nil, []byte{}, false
	asLock(t, "no programs", m, 2000)
}
