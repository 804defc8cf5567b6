package save

import (
	"bytes"
	"math"
	"slices"
	"testing"

	"marquee/api"
	"marquee/bus"
)

// Machines that aren't right have no bytes; of several errors the first one is told.
func TestWrongMachines(t *testing.T) {
	for i, c := range []struct {
		do   func(m *api.Machine)
		want api.Errno
	}{
		{func(m *api.Machine) { *m = api.Machine{} }, api.ErrForm},
		{func(m *api.Machine) { m.MainRom = make([]byte, 1025) }, api.ErrMany},
		{func(m *api.Machine) { m.AuxRom, m.Ram, m.Clock = make([]byte, 1025), nil, -1 }, api.ErrMany},
		{func(m *api.Machine) { m.MainRom = make([]byte, 65536) }, api.ErrMany},
		{func(m *api.Machine) { m.Ram = nil }, api.ErrForm},
		{func(m *api.Machine) { m.Ram = make([]byte, 129) }, api.ErrForm},
		{func(m *api.Machine) { m.Own = m.Own[1:] }, api.ErrForm},
		{func(m *api.Machine) { m.Video, m.S.Wait = make([]byte, 65792), 16 }, api.ErrForm},
		{func(m *api.Machine) { m.S.Wait = 16 }, api.ErrRange},
		{func(m *api.Machine) { m.S.Wait = -1 }, api.ErrRange},
		{func(m *api.Machine) { m.S.Wait = math.MaxInt }, api.ErrRange},
		{func(m *api.Machine) { m.B.Line = 10 }, api.ErrRange},
		{func(m *api.Machine) { m.B.Line = -1 }, api.ErrRange},
		{func(m *api.Machine) { m.B.At = 64 }, api.ErrRange},
		{func(m *api.Machine) { m.B.At = math.MinInt }, api.ErrRange},
		{func(m *api.Machine) { m.B.Frame = 20001 }, api.ErrRange},
		{func(m *api.Machine) { m.B.Frame = -1 }, api.ErrRange},
		{func(m *api.Machine) { m.Clock = -1 }, api.ErrRange},
		{func(m *api.Machine) { m.Clock = 200001 }, api.ErrRange},
		{func(m *api.Machine) { m.Clock = math.MaxInt }, api.ErrRange},
		{func(m *api.Machine) { m.Clock, m.MainReady = 7, 20008 }, api.ErrRange},
		{func(m *api.Machine) { m.MainReady = -1 }, api.ErrRange},
		{func(m *api.Machine) { m.Clock, m.AuxReady = 200000, 220001 }, api.ErrRange},
		{func(m *api.Machine) { m.AuxReady = math.MaxInt }, api.ErrRange},
	} {
		m := anyMachine(noise(7), 5, 3)
		c.do(&m)
		if b, e := Bytes(m); e != c.want || b != nil {
			t.Errorf("%d: %v, %d, want %d", i, b, e, c.want)
		}
	}
}

// isTorn holds bytes against there being no machine of them.
func isTorn(t testing.TB, what string, b []byte) {
	t.Helper()
	if m, e := Of(b); e != api.ErrTorn || !sameMachine(m, api.Machine{}) {
		t.Fatalf("%s, %d bytes: %+v, %d", what, len(b), m, e)
	}
}

// Machines that aren't right, written as right ones are: these aren't the bytes of any.
func TestWrittenWrong(t *testing.T) {
	for _, do := range []func(m *api.Machine){
		func(m *api.Machine) { m.MainRom = make([]byte, 1025) },
		func(m *api.Machine) { m.AuxRom = make([]byte, 65535) },
		func(m *api.Machine) { m.Ram = nil },
		func(m *api.Machine) { m.Ram, m.Own = m.Own, m.Ram },
		func(m *api.Machine) { m.Own = make([]byte, 65) },
		func(m *api.Machine) { m.Video = m.Video[:255] },
		func(m *api.Machine) { m.S.Wait = 16 },
		func(m *api.Machine) { m.S.Wait = -1 },
		func(m *api.Machine) { m.B.Line = 10 },
		func(m *api.Machine) { m.B.At = 64 },
		func(m *api.Machine) { m.B.Frame = 20001 },
		func(m *api.Machine) { m.B.Frame = math.MinInt32 },
		func(m *api.Machine) { m.Clock = 200001 },
		func(m *api.Machine) { m.Clock = math.MaxInt32 },
		func(m *api.Machine) { m.Clock = -1 },
		func(m *api.Machine) { m.MainReady = m.Clock + 20001 },
		func(m *api.Machine) { m.AuxReady = m.Clock + 20001 },
	} {
		m := anyMachine(noise(8), 5, 3)
		back(t, "a right machine", m)
		do(&m)
		isTorn(t, "a wrong machine", written(m))
	}
}

// Cut anywhere, at either end; or with more at either end.
func TestCut(t *testing.T) {
	next := noise(9)
	for _, size := range []int{0, 1, 40} {
		b := saved(t, anyMachine(next, size, size/2))
		for k := range b {
			isTorn(t, "cut", b[:k])
			isTorn(t, "begun late", b[k+1:])
		}
		for more := 1; more < 300; more++ {
			isTorn(t, "more behind", append(slices.Clone(b), make([]byte, more)...))
		}
		isTorn(t, "more ahead", append([]byte{0}, b...))
		isTorn(t, "twice", append(slices.Clone(b), b...))
	}
}

func TestNoBytes(t *testing.T) {
	isTorn(t, "nil", nil)
	isTorn(t, "none", []byte{})
	for _, b := range []byte{0, 1, 2, 0xff} {
		for _, n := range []int{1, 100, mostBytes, mostBytes + 1, 70000, 400000} {
			isTorn(t, "all the same", bytes.Repeat([]byte{b}, n))
		}
	}
}

// oneOrNone holds bytes against what Of tells of them: the machine that is written so, or that there is none.
func oneOrNone(t testing.TB, b []byte) api.Errno {
	t.Helper()
	m, e := Of(b)
	if e != api.OK {
		isTorn(t, "no machine", b)
		return e
	}
	if again := saved(t, m); bus.Check(m) != api.OK || !bytes.Equal(again, b) {
		t.Fatalf("%v is read as a machine that is written as %v", b, again)
	}
	return e
}

// Whatever value a single byte takes: no machine is read of two kinds of bytes.
func TestEachByte(t *testing.T) {
	b := saved(t, anyMachine(noise(10), 3, 2))
	machines, none := 0, 0
	for i, was := range b {
		for n := range 256 {
			b[i] = byte(n)
			if oneOrNone(t, b) == api.OK {
				machines++
			} else {
				none++
			}
		}
		b[i] = was
	}
	// Most bytes are those of lists and words; of bools, sizes and numbers most values are wrong.
	if machines < 100000 || none < 10000 {
		t.Errorf("%d machines, %d times none", machines, none)
	}
}

// Several bytes that look like any, in those of a machine, or alone.
func TestAnyBytes(t *testing.T) {
	next := noise(11)
	for range 20000 {
		b := saved(t, anyMachine(next, next(8), next(8)))
		for range 1 + next(4) {
			b[next(len(b))] = byte(next(256))
		}
		oneOrNone(t, b)
	}
	for range 2000 {
		b := make([]byte, next(3000))
		for i := range b {
			b[i] = byte(next(256) * next(2))
		}
		oneOrNone(t, b)
	}
}
