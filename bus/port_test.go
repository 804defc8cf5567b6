package bus

import (
	"bytes"
	"slices"
	"testing"

	"marquee/api"
)

func TestPads(t *testing.T) {
	m := blank()
	m.Pads = [2]api.Pad{{Down: 0xa0}, {Down: 0x40, Shift: 0x80}}
	write(t, &m, false, 0xd001, 1)
	if m.Pads[0].Latch || m.Pads[1].Latch {
		t.Errorf("port 1 was written: %v", m.Pads)
	}
	write(t, &m, false, 0xd000, 0xff)
	if want := [2]api.Pad{{Down: 0xa0, Latch: true, Shift: 0xa0}, {Down: 0x40, Latch: true, Shift: 0x40}}; m.Pads != want {
		t.Errorf("latched: %v", m.Pads)
	}
	write(t, &m, false, 0xd000, 0xfe)
	var got []byte
	for _, at := range []uint16{0xd000, 0xd000, 0xd001, 0xd000, 0xd001, 0xd001} {
		got = append(got, read(t, &m, false, at))
	}
	if !bytes.Equal(got, []byte{1, 0, 0, 1, 1, 0}) {
		t.Errorf("buttons: %d", got)
	}
	if want := [2]api.Pad{{Down: 0xa0, Shift: 7}, {Down: 0x40, Shift: 7}}; m.Pads != want {
		t.Errorf("behind them: %v", m.Pads)
	}
}

func TestTimerPorts(t *testing.T) {
	m := blank()
	m.T.Rings = true
	write(t, &m, false, 0xd002, 0x12)
	write(t, &m, false, 0xd003, 0x34)
	for _, c := range []struct {
		n    byte
		want api.Timer
		then byte
	}{
		{0, api.Timer{Reload: 0x1234, Rings: true}, 2},
		{1, api.Timer{Reload: 0x1234, Count: 0x1234, On: true, Rings: true}, 3},
		{0xfc, api.Timer{Reload: 0x1234, Count: 0x1234, Rings: true}, 2},
		{3, api.Timer{Reload: 0x1234, Count: 0x1234, On: true}, 1},
		{2, api.Timer{Reload: 0x1234, Count: 0x1234}, 0},
	} {
		write(t, &m, false, 0xd004, c.n)
		if n := read(t, &m, false, 0xd004); m.T != c.want || n != c.then {
			t.Errorf("port 4 written %#x: %+v, reads %d, want %+v, %d", c.n, m.T, n, c.want, c.then)
		}
	}
	if a, b := read(t, &m, false, 0xd002), read(t, &m, false, 0xd003); a != 255 || b != 255 {
		t.Errorf("ports 2, 3 read as %d, %d", a, b)
	}
}

func TestBeamPorts(t *testing.T) {
	m := blank()
	m.B = api.Beam{Line: 9, At: 63, Rings: true, Frame: 12}
	if a, b, c := read(t, &m, false, 0xd006), read(t, &m, false, 0xd007), read(t, &m, false, 0xd008); a != 9 || b != 63 || c != 1 {
		t.Errorf("ports 6, 7, 8 read as %d, %d, %d", a, b, c)
	}
	write(t, &m, false, 0xd006, 3)
	write(t, &m, false, 0xd007, 3)
	if m.B != (api.Beam{Line: 9, At: 63, Rings: true, Frame: 12}) {
		t.Errorf("ports 6, 7 were written: %+v", m.B)
	}
	write(t, &m, false, 0xd008, 0)
	if n := read(t, &m, false, 0xd008); n != 0 || m.B != (api.Beam{Line: 9, At: 63, Frame: 12}) {
		t.Errorf("port 8 was written: %+v, reads %d", m.B, n)
	}
}

func TestWordPorts(t *testing.T) {
	m := blank()
	for i, n := range []byte{0x12, 0x34, 0x56, 0x78} {
		write(t, &m, false, 0xdfea+uint16(i), n)
	}
	if m.From != 0x1234 || m.To != 0x5678 {
		t.Errorf("From %#x, To %#x", m.From, m.To)
	}
	write(t, &m, false, 0xd00a, 0xff)
	write(t, &m, false, 0xd00d, 0)
	if m.From != 0xff34 || m.To != 0x5600 {
		t.Errorf("From %#x, To %#x", m.From, m.To)
	}
}

func TestTransfers(t *testing.T) {
	for _, c := range []struct {
		what     string
		from, to uint16
		n        byte
		at       int
		want     []byte // in Video, from at on
	}{
		{"of nothing", 0, 0, 0, 0, []byte{100, 101, 102}},
		{"of a byte of the program", 1, 5, 1, 4, []byte{104, 2, 106}},
		{"beyond the program", 2, 0, 4, 0, []byte{3, 255, 255, 255, 104}},
		{"of Ram, over and over", 0x807f, 8, 3, 8, []byte{77, 50, 51, 111}},
		{"of Ram, then of what it wrote itself", 0xbfff, 0, 3, 0, []byte{77, 77, 77, 103}},
		{"of Video onto itself, ahead", 0xc002, 1, 3, 0, []byte{100, 102, 103, 104, 104}},
		{"of Video onto itself, behind", 0xc001, 2, 3, 0, []byte{100, 101, 101, 101, 101, 105}},
		{"of Video, then ports", 0xcfff, 9, 3, 8, []byte{108, 99, 255, 255, 112}},
		{"of ports alone", 0xd000, 9, 3, 8, []byte{108, 255, 255, 255, 112}},
		{"behind ports", 0xdfff, 9, 3, 8, []byte{108, 255, 255, 255, 112}},
		{"around the last place", 0xfffe, 9, 4, 8, []byte{108, 255, 255, 1, 2, 113}},
		{"to over the last byte of Video", 0, 0x12ff, 3, 0, []byte{2, 3, 102}},
		{"to around the last place", 0, 0xffff, 3, 0, []byte{2, 3, 102}},
	} {
		m, _ := New([]byte{1, 2, 3}, nil)
		for i := range m.Video {
			m.Video[i] = byte(100 + i%100)
		}
		m.Video[255] = 99
		copy(m.Ram, []byte{50, 51, 52})
		m.Ram[127] = 77
		m.From, m.To, m.Pads[0].Shift, m.Rung = c.from, c.to, 0x55, true
		before := twin(m)
		clocks := write(t, &m, false, 0xd00e, c.n)
		if got := m.Video[c.at : c.at+len(c.want)]; !bytes.Equal(got, c.want) {
			t.Errorf("a transfer %s: %d, want %d", c.what, got, c.want)
		}
		if clocks != 2*int(c.n) {
			t.Errorf("a transfer %s takes %d clocks", c.what, clocks)
		}
		before.Video = m.Video
		if !sameMachine(m, before) {
			t.Errorf("a transfer %s changed more: %+v", c.what, m)
		}
	}
}

// The longest one, of the longest way.
func TestLongTransfer(t *testing.T) {
	m, _ := New(bytes.Repeat([]byte{9}, 1024), nil)
	m.To = 3
	if clocks := write(t, &m, false, 0xd00e, 255); clocks != 510 {
		t.Errorf("255 bytes take %d clocks", clocks)
	}
	if m.Video[2] != 0 || bytes.Count(m.Video, []byte{9}) != 255 {
		t.Errorf("255 bytes: %d", m.Video)
	}
}

// The other processor has no transfers.
func TestAuxTransfersNothing(t *testing.T) {
	m, _ := New([]byte{1, 2, 3}, nil)
	for p := uint16(0xd000); p < 0xd020; p++ {
		if clocks := write(t, &m, true, p, 200); clocks != 0 {
			t.Errorf("a write at %#x takes %d clocks", p, clocks)
		}
	}
	if !bytes.Equal(m.Video, make([]byte, 256)) {
		t.Errorf("Video: %d", m.Video)
	}
}

func TestLetGo(t *testing.T) {
	before := api.Cpu{R: [8]uint16{1, 2, 3}, PC: 99, Z: true, May: true, Waits: true}
	for _, c := range []struct {
		rom     []byte
		was     bool
		n       byte
		granted bool
		held    bool
		aux     api.Cpu
		ready   int
	}{
		{[]byte{0, 6}, true, 0, false, false, api.Cpu{PC: 6}, 40},
		{[]byte{0, 6}, true, 1, true, false, api.Cpu{PC: 6}, 40},
		{[]byte{0, 6}, true, 0xfd, true, false, api.Cpu{PC: 6}, 40},
		{[]byte{8}, true, 0, false, false, api.Cpu{PC: 0x08ff}, 40},
		{nil, true, 1, true, false, api.Cpu{PC: 0xffff}, 40},
		{[]byte{0, 6}, true, 2, false, true, before, 77},
		{[]byte{0, 6}, true, 3, true, true, before, 77},
		{[]byte{0, 6}, false, 0, false, false, before, 77},
		{[]byte{0, 6}, false, 1, true, false, before, 77},
		{[]byte{0, 6}, false, 2, false, true, before, 77},
		{[]byte{0, 6}, false, 0xff, true, true, before, 77},
	} {
		m := blank()
		m.AuxRom, m.Held, m.Aux, m.Clock, m.AuxReady, m.MainReady = c.rom, c.was, before, 40, 77, 55
		want := twin(m)
		want.Granted, want.Held, want.Aux, want.AuxReady = c.granted, c.held, c.aux, c.ready
		clocks := write(t, &m, false, 0xd010, c.n)
		if !sameMachine(m, want) || clocks != 0 {
			t.Errorf("%x, Held %v, written %#x: %+v, want %+v", c.rom, c.was, c.n, m, want)
		}
		if n := read(t, &m, false, 0xd010); n != c.n&3 {
			t.Errorf("written %#x, reads as %d", c.n, n)
		}
	}
}

func TestMail(t *testing.T) {
	m := blank()
	m.Mail, m.Rung = [2]byte{3, 4}, true
	if n := read(t, &m, false, 0xd011); n != 4 || !m.Rung {
		t.Errorf("the main one reads %d, Rung %v", n, m.Rung)
	}
	if n := read(t, &m, true, 0xd018); n != 3 || m.Rung {
		t.Errorf("the other one reads %d, Rung %v", n, m.Rung)
	}
	write(t, &m, true, 0xd018, 5)
	if m.Mail != [2]byte{3, 5} || m.Rung {
		t.Errorf("the other one wrote: %v, Rung %v", m.Mail, m.Rung)
	}
	write(t, &m, false, 0xd011, 0)
	if m.Mail != [2]byte{0, 5} || !m.Rung {
		t.Errorf("the main one wrote: %v, Rung %v", m.Mail, m.Rung)
	}
}

func TestSoundPorts(t *testing.T) {
	m := blank()
	for at := range 24 {
		write(t, &m, true, uint16(0xd000+at), byte(0x10+at))
		if n := read(t, &m, true, uint16(0xd000+at)); n != 255 {
			t.Errorf("port %d reads as %d", at, n)
		}
	}
	want := [3]api.Voice{
		{Period: 0x1011, Loud: 2, Noise: 0x1314},
		{Period: 0x1819, Loud: 10, Noise: 0x1b1c},
		{Period: 0x2021, Loud: 2, Noise: 0x2324},
	}
	if m.S.V != want {
		t.Errorf("voices: %+v, want %+v", m.S.V, want)
	}
}

// Ports that nothing is told of read as FF, and are written without anything.
func TestOtherPorts(t *testing.T) {
	next := noise(6)
	for _, c := range []struct {
		aux           bool
		unread, still []uint16
	}{
		{false, []uint16{2, 3, 5, 9, 10, 11, 12, 13, 14, 15, 18, 24, 31}, []uint16{1, 5, 6, 7, 9, 15, 18, 24, 31}},
		{true, []uint16{0, 1, 4, 16, 17, 23, 25, 31}, []uint16{5, 6, 7, 13, 15, 21, 23, 25, 31}},
	} {
		m := anyMachine(next)
		before := twin(m)
		for _, p := range c.unread {
			if n := read(t, &m, c.aux, 0xd000+p); n != 255 {
				t.Errorf("aux %v, port %d reads as %d", c.aux, p, n)
			}
		}
		for _, p := range c.still {
			write(t, &m, c.aux, 0xd000+p, byte(next(256)))
		}
		if !sameMachine(m, before) {
			t.Errorf("aux %v: %+v, want %+v", c.aux, m, before)
		}
	}
}

// Who isn't Granted changes nothing of the main memory, and finds nothing of it.
func TestNotGranted(t *testing.T) {
	next := noise(7)
	m := anyMachine(next)
	m.Granted = false
	b, e := Open(m)
	if e != api.OK {
		t.Fatal(e)
	}
	reach := b.Aux()
	for at := range 65536 {
		reach.Write(uint16(at), byte(next(256)))
		n := reach.Read(uint16(at))
		if at >= 0xc000 && at < 0xd000 && n != 255 {
			t.Fatalf("at %#x %d is read", at, n)
		}
	}
	if !bytes.Equal(b.Machine.Ram, m.Ram) || !bytes.Equal(b.Machine.Video, m.Video) || b.Machine.Granted {
		t.Errorf("the main memory is changed: %x, %x", b.Machine.Ram, b.Machine.Video)
	}
}

// Granted for a while alone.
func TestGrantedForAWhile(t *testing.T) {
	m, _ := New(nil, nil)
	want := []byte{0, 2, 0}
	for i, n := range []byte{2, 3, 0} {
		write(t, &m, false, 0xd010, n)
		write(t, &m, true, 0xcf80+uint16(i), byte(i+1))
	}
	if !bytes.Equal(m.Ram[:3], want) {
		t.Errorf("Ram: %d, want %d", m.Ram[:3], want)
	}
}

// Transfers one behind the other, as one step may begin them, add up.
func TestTaken(t *testing.T) {
	b, e := Open(blank())
	if e != api.OK {
		t.Fatal(e)
	}
	main := b.Main()
	main.Write(0xd00e, 3)
	main.Write(0xd02e, 250)
	if b.Taken != 506 {
		t.Errorf("Taken: %d", b.Taken)
	}
}

// A board keeps what the other processor writes to the sound, in order; what the main one writes there, and what goes to other ports, it doesn't.
func TestWritesAreKept(t *testing.T) {
	m := blank()
	m.Clock = 30
	b, e := Open(m)
	if e != api.OK {
		t.Fatal(e)
	}
	aux, main := b.Aux(), b.Main()
	aux.Write(0xd002, 9)
	main.Write(0xd002, 8)
	aux.Write(0xdfe7, 7)
	b.Machine.Clock = 31
	for _, at := range []uint16{0x8000, 0xc000, 0xcfff, 0xd018, 0xd01f, 0xe000} {
		aux.Write(at, 6)
	}
	aux.Write(0xd017, 5)
	aux.Read(0xd002)
	want := []api.Write{{Clock: 30, At: 2, Value: 9}, {Clock: 30, At: 7, Value: 7}, {Clock: 31, At: 23, Value: 5}}
	if !slices.Equal(b.Writes, want) {
		t.Errorf("Writes: %v, want %v", b.Writes, want)
	}
}
