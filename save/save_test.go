package save

import (
	"bytes"
	"reflect"
	"slices"
	"testing"

	"marquee/api"
	"marquee/bus"
)

// mostBytes is what the document allows.
const mostBytes = 4000

// noise makes numbers that look like any, the same ones each time.
func noise(seed uint64) func(below int) int {
	return func(below int) int {
		seed = seed*6364136223846793005 + 1442695040888963407
		return int(seed>>33) % below
	}
}

// fill gives all of a machine's fields, and what its lists hold, values that look like any.
func fill(next func(below int) int, v reflect.Value) {
	switch v.Kind() {
	case reflect.Struct:
		for i := range v.NumField() {
			fill(next, v.Field(i))
		}
	case reflect.Array, reflect.Slice:
		for i := range v.Len() {
			fill(next, v.Index(i))
		}
	case reflect.Bool:
		v.SetBool(next(2) == 1)
	case reflect.Int:
		v.SetInt(int64(next(api.SoundTime)))
	default:
		v.SetUint(uint64(next(1 << v.Type().Bits())))
	}
}

// anyMachine tells a right one, with programs of so many bytes.
func anyMachine(next func(below int) int, mainSize, auxSize int) api.Machine {
	m := api.Machine{
		MainRom: make([]byte, mainSize), AuxRom: make([]byte, auxSize),
		Ram: make([]byte, api.RamSize), Own: make([]byte, api.OwnSize), Video: make([]byte, api.VideoSize),
	}
	fill(next, reflect.ValueOf(&m).Elem())
	m.S.Wait = next(api.SoundTime)
	m.B.Line, m.B.At, m.B.Frame = next(api.AllLines), next(api.LineTime), next(api.MaxClocks+1)
	m.Clock = next(api.MaxTime + 1)
	m.MainReady, m.AuxReady = next(m.Clock+api.MaxClocks+1), next(m.Clock+api.MaxClocks+1)
	return m
}

// plain tells lists without anything in them as nil: either is right.
func plain(m api.Machine) api.Machine {
	for _, l := range []*[]byte{&m.MainRom, &m.AuxRom, &m.Ram, &m.Own, &m.Video} {
		if len(*l) == 0 {
			*l = nil
		}
	}
	return m
}

func sameMachine(a, b api.Machine) bool { return reflect.DeepEqual(plain(a), plain(b)) }

// saved tells the bytes of a machine that must be right.
func saved(t testing.TB, m api.Machine) []byte {
	t.Helper()
	b, e := Bytes(m)
	if e != api.OK || len(b) > mostBytes {
		t.Fatalf("Bytes: %d bytes, %d", len(b), e)
	}
	return b
}

// back holds a machine against what its bytes tell.
func back(t testing.TB, what string, m api.Machine) {
	t.Helper()
	got, e := Of(saved(t, m))
	if e != api.OK || !sameMachine(got, m) {
		t.Fatalf("%s:\n%+v, %d, want\n%+v", what, got, e, m)
	}
}

// A machine that is new, and others, with programs of all sizes.
func TestBack(t *testing.T) {
	m, e := bus.New([]byte{0, 2, 0x79, 0x1f}, []byte{1})
	if e != api.OK {
		t.Fatalf("New: %d", e)
	}
	back(t, "a new machine", m)
	next := noise(1)
	for size := range api.MaxRom + 1 {
		back(t, "a main program", anyMachine(next, size, next(4)))
		back(t, "another program", anyMachine(next, next(4), size))
	}
	for range 300 {
		back(t, "any machine", anyMachine(next, next(api.MaxRom+1), next(api.MaxRom+1)))
	}
}

func TestMostBytes(t *testing.T) {
	next := noise(2)
	back(t, "the longest programs", anyMachine(next, api.MaxRom, api.MaxRom))
	back(t, "no programs", anyMachine(next, 0, 0))
}

// Where each part is at an end of what it may be.
func TestEnds(t *testing.T) {
	for i, do := range []func(m *api.Machine){
		func(*api.Machine) {},
		func(m *api.Machine) { m.MainRom, m.AuxRom = nil, nil },
		func(m *api.Machine) { m.MainRom, m.AuxRom = []byte{}, []byte{} },
		func(m *api.Machine) { m.S.Wait = 0 },
		func(m *api.Machine) { m.S.Wait = 15 },
		func(m *api.Machine) { m.B = api.Beam{} },
		func(m *api.Machine) { m.B = api.Beam{Line: 9, At: 63, Frame: 20000, Rings: true} },
		func(m *api.Machine) { m.Clock, m.MainReady, m.AuxReady = 0, 0, 0 },
		func(m *api.Machine) { m.Clock, m.MainReady, m.AuxReady = 0, 20000, 20000 },
		func(m *api.Machine) { m.Clock, m.MainReady, m.AuxReady = 65535, 65536, 65537 },
		func(m *api.Machine) { m.Clock, m.MainReady, m.AuxReady = 200000, 0, 220000 },
		func(m *api.Machine) { m.Clock, m.MainReady, m.AuxReady = 200000, 220000, 0 },
		func(m *api.Machine) { m.T = api.Timer{Reload: 0xffff, Count: 0xffff, On: true} },
		func(m *api.Machine) { m.Pads[1] = api.Pad{Down: 0xff, Latch: true, Shift: 0xfe} },
		func(m *api.Machine) { m.S.V[2] = api.Voice{Period: 0xffff, Count: 0xff, Loud: 0xff, Noise: 0xff00} },
	} {
		m := anyMachine(noise(uint64(i)), 5, 3)
		do(&m)
		back(t, "an end", m)
	}
}

// eachLeaf comes to each number and each bool of a machine.
func eachLeaf(v reflect.Value, do func(leaf reflect.Value)) {
	switch v.Kind() {
	case reflect.Struct:
		for i := range v.NumField() {
			eachLeaf(v.Field(i), do)
		}
	case reflect.Array, reflect.Slice:
		for i := range v.Len() {
			eachLeaf(v.Index(i), do)
		}
	default:
		do(v)
	}
}

// Whatever single part of a machine is another one: its bytes are, and tell it. None of the parts is named here: none can be forgotten.
func TestEachPart(t *testing.T) {
	m := anyMachine(noise(3), 4, 3)
	m.Clock, m.MainReady, m.AuxReady, m.B.Line, m.B.At, m.B.Frame, m.S.Wait = 70000, 70001, 70002, 3, 4, 5, 6
	was, parts := saved(t, m), 0
	eachLeaf(reflect.ValueOf(&m).Elem(), func(leaf reflect.Value) {
		parts++
		before := reflect.New(leaf.Type()).Elem()
		before.Set(leaf)
		switch leaf.Kind() {
		case reflect.Bool:
			leaf.SetBool(!leaf.Bool())
		case reflect.Int:
			leaf.SetInt(leaf.Int() + 1)
		default:
			leaf.SetUint(^leaf.Uint() & (1<<leaf.Type().Bits() - 1))
		}
		if bytes.Equal(saved(t, m), was) {
			t.Errorf("part %d isn't written", parts)
		}
		back(t, "a part that is another one", m)
		leaf.Set(before)
	})
	if want := 2*15 + 4 + 3 + 128 + 64 + 256 + 2*3 + 4 + 3*5 + 1 + 4 + 2 + 2 + 2 + 1 + 3; parts != want {
		t.Errorf("%d parts, want %d", parts, want)
	}
}

// The same machine, however its empty lists are handed in: the same bytes.
func TestSameBytes(t *testing.T) {
	m := anyMachine(noise(4), 0, 0)
	m.MainRom, m.AuxRom = nil, []byte{}
	was := saved(t, m)
	m.MainRom, m.AuxRom = []byte{}, nil
	if again := saved(t, m); !bytes.Equal(again, was) {
		t.Errorf("%v, then %v", was, again)
	}
}

// lists are all of a machine's, with their spare room.
func lists(m api.Machine) [][]byte {
	l := [][]byte{m.MainRom, m.AuxRom, m.Ram, m.Own, m.Video}
	for i := range l {
		l[i] = l[i][:cap(l[i])]
	}
	return l
}

func spoil(l ...[]byte) {
	for _, one := range l {
		for i := range one {
			one[i] ^= 0xee
		}
	}
}

// A machine that is saved stays, with the spare room of its lists, and shares nothing with its bytes.
func TestMemoryOfBytes(t *testing.T) {
	m := anyMachine(noise(5), 9, 7)
	for _, l := range []*[]byte{&m.MainRom, &m.AuxRom, &m.Ram, &m.Own, &m.Video} {
		*l = append(bytes.Clone(*l), 1, 2, 3)[:len(*l)]
	}
	was := bytes.Join(lists(m), nil)
	b := saved(t, m)
	again := saved(t, m)
	spoil(b[:cap(b)])
	if !bytes.Equal(bytes.Join(lists(m), nil), was) {
		t.Errorf("the machine is changed")
	}
	if got, e := Of(again); e != api.OK || !sameMachine(got, m) {
		t.Errorf("two answers share memory")
	}
}

// Bytes that are read stay, with their spare room; the machine shares nothing with them, nor its lists with each other.
func TestMemoryOfMachine(t *testing.T) {
	m := anyMachine(noise(6), 9, 7)
	b := append(saved(t, m), 1, 2, 3)
	was := slices.Clone(b[:cap(b)])
	b = b[:len(b)-3]
	got, _ := Of(b)
	again, _ := Of(b)
	// Turned around once each: a list that shares memory with another one is turned back.
	spoil(lists(got)...)
	if !bytes.Equal(b[:cap(b)], was) {
		t.Errorf("the bytes are changed")
	}
	if !sameMachine(again, m) {
		t.Errorf("two answers share memory")
	}
	for i, l := range [][]byte{m.MainRom, m.AuxRom, m.Ram, m.Own, m.Video} {
		spoil(l)
		if !bytes.Equal(lists(got)[i][:len(l)], l) {
			t.Errorf("list %d shares memory with another one", i)
		}
	}
	spoil(b[:cap(b)])
	spoil(lists(again)...)
	if !sameMachine(got, again) {
		t.Errorf("a machine shares memory with its bytes")
	}
}
