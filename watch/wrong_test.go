package watch

import (
	"math"
	"slices"
	"testing"

	"marquee/api"
)

// both tells the error of both calls, which must be the same one; with one, nothing else may be told.
func both(t *testing.T, m api.Machine, inputs []api.Input, clocks int) api.Errno {
	t.Helper()
	l, traced, e := Trace(m, inputs, clocks)
	out, there, e2 := Break(m, inputs, clocks, 6)
	if e != e2 {
		t.Errorf("Trace: %d, Break: %d", e, e2)
	}
	if e != api.OK && (l != nil || !sameMachine(traced, api.Machine{})) {
		t.Errorf("Trace: %v, %+v, %d", l, traced, e)
	}
	if e2 != api.OK && (there || !sameMachine(out, api.Machine{})) {
		t.Errorf("Break: %+v, %v, %d", out, there, e2)
	}
	return e
}

func TestManyClocks(t *testing.T) {
	for _, c := range []struct {
		clock, clocks int
		want          api.Errno
	}{
		{0, 0, api.OK},
		{0, 500, api.OK},
		{0, 501, api.ErrRange},
		{0, -1, api.ErrRange},
		{0, 20000, api.ErrRange},
		{0, math.MinInt, api.ErrRange},
		{0, math.MaxInt, api.ErrRange},
		{1, math.MaxInt, api.ErrRange},
		{200000, math.MaxInt, api.ErrRange},
		{199500, 500, api.OK},
		{199501, 500, api.ErrRange},
		{199501, 499, api.OK},
		{199999, 1, api.OK},
		{199999, 2, api.ErrRange},
		{200000, 0, api.OK},
		{200000, 1, api.ErrRange},
		{200000, -1, api.ErrRange},
	} {
		m := held(t, "nop\nhlt\n", "")
		m.Clock = c.clock
		if e := both(t, m, nil, c.clocks); e != c.want {
			t.Errorf("%d clocks from %d on: %d, want %d", c.clocks, c.clock, e, c.want)
		}
		if _, out, e := Trace(m, nil, c.clocks); e == api.OK && out.Clock != c.clock+c.clocks {
			t.Errorf("%d clocks from %d on: to %d", c.clocks, c.clock, out.Clock)
		}
	}
}

func TestWrongInputs(t *testing.T) {
	for i, c := range []struct {
		inputs []api.Input
		clock  int
		want   api.Errno
	}{
		{nil, 5, api.OK},
		{[]api.Input{}, 5, api.OK},
		{slices.Repeat([]api.Input{{Clock: 5}}, 40), 5, api.OK},
		{slices.Repeat([]api.Input{{Clock: 400000, Pad: 1}}, 40), 5, api.OK},
		{make([]api.Input, 41), 0, api.ErrMany},
		{slices.Repeat([]api.Input{{Pad: 2}}, 1000), 0, api.ErrMany},
		{[]api.Input{{Clock: 4}}, 5, api.ErrRange},
		{[]api.Input{{Clock: -1}}, 0, api.ErrRange},
		{[]api.Input{{Clock: 400001}}, 0, api.ErrRange},
		{[]api.Input{{Clock: 9}, {Clock: 8}}, 0, api.ErrRange},
		{[]api.Input{{Clock: 9}, {Clock: 8, Pad: 2}}, 0, api.ErrRange},
		{[]api.Input{{Pad: 2}}, 0, api.ErrWho},
		{[]api.Input{{Pad: -1}, {Clock: -1}}, 0, api.ErrWho},
	} {
		m := held(t, "nop\nhlt\n", "")
		m.Clock = c.clock
		for _, clocks := range []int{0, 1, 50} {
			if e := both(t, m, c.inputs, clocks); e != c.want {
				t.Errorf("%d, %d clocks: %d, want %d", i, clocks, e, c.want)
			}
		}
		// The inputs come ahead of the clocks.
		if e := both(t, m, c.inputs, 501); c.want != api.OK && e != c.want {
			t.Errorf("%d, too many clocks: %d, want %d", i, e, c.want)
		}
	}
}

// Of several things that are wrong, the machine comes first.
func TestWrongMachines(t *testing.T) {
	for i, c := range []struct {
		set  func(m *api.Machine)
		want api.Errno
	}{
		{func(m *api.Machine) { *m = api.Machine{} }, api.ErrForm},
		{func(m *api.Machine) { m.MainRom = make([]byte, 1025) }, api.ErrMany},
		{func(m *api.Machine) { m.AuxRom, m.Ram = make([]byte, 1025), nil }, api.ErrMany},
		{func(m *api.Machine) { m.Ram = m.Ram[1:] }, api.ErrForm},
		{func(m *api.Machine) { m.Own = append(m.Own, 0) }, api.ErrForm},
		{func(m *api.Machine) { m.Video, m.Clock = nil, -1 }, api.ErrForm},
		{func(m *api.Machine) { m.S.Wait = 16 }, api.ErrRange},
		{func(m *api.Machine) { m.B.Line = 10 }, api.ErrRange},
		{func(m *api.Machine) { m.B.Frame = 20001 }, api.ErrRange},
		{func(m *api.Machine) { m.Clock = -1 }, api.ErrRange},
		{func(m *api.Machine) { m.Clock = 200001 }, api.ErrRange},
		{func(m *api.Machine) { m.Clock = math.MaxInt }, api.ErrRange},
		{func(m *api.Machine) { m.MainReady = 20001 }, api.ErrRange},
		{func(m *api.Machine) { m.AuxReady = -1 }, api.ErrRange},
	} {
		m := held(t, "nop\nhlt\n", "")
		c.set(&m)
		for _, clocks := range []int{0, 1, -1, 501, math.MaxInt} {
			if e := both(t, m, nil, clocks); e != c.want {
				t.Errorf("%d, %d clocks: %d, want %d", i, clocks, e, c.want)
			}
			if e := both(t, m, []api.Input{{Pad: 2}}, clocks); e != c.want {
				t.Errorf("%d, %d clocks, a wrong input: %d, want %d", i, clocks, e, c.want)
			}
		}
	}
}

// Of frames beyond all counting nothing is promised, but that it ends; up to there all holds.
func TestLastFrames(t *testing.T) {
	for _, frame := range []int{19000, 19001, 19999, 20000} {
		m := held(t, "go:\nnop\njmp go\n", "")
		m.B = api.Beam{Line: 9, At: 40, Frame: frame}
		_, traced, e := Trace(m, nil, 500)
		out, there, e2 := Break(m, nil, 500, 7)
		if frame > 19000 {
			continue
		}
		want := later(t, m, 500)
		if e != api.OK || e2 != api.OK || there || !sameMachine(traced, want) || !sameMachine(out, want) {
			t.Errorf("from the frame %d on: %d, %+v, %d, %+v", frame, e, traced, e2, out)
		}
	}
}
