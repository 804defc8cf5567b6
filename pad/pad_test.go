package pad

import (
	"testing"

	"marquee/api"
)

// eachPad goes through every pad that there is.
func eachPad(do func(p api.Pad)) {
	for down := range 256 {
		for shift := range 256 {
			do(api.Pad{Down: byte(down), Shift: byte(shift)})
			do(api.Pad{Down: byte(down), Latch: true, Shift: byte(shift)})
		}
	}
}

// bit tells a byte's bit as 0 or 1, by division.
func bit(b byte, at int) byte {
	n := int(b)
	for range at {
		n /= 2
	}
	return byte(n % 2)
}

func TestPress(t *testing.T) {
	for _, x := range []struct {
		p    api.Pad
		down byte
		want api.Pad
	}{
		{api.Pad{}, 0, api.Pad{}},
		{api.Pad{}, 0xa5, api.Pad{Down: 0xa5}},
		{api.Pad{Down: 0xff, Shift: 0x12}, 0x34, api.Pad{Down: 0x34, Shift: 0x12}},
		{api.Pad{Latch: true}, 0xa5, api.Pad{Down: 0xa5, Latch: true, Shift: 0xa5}},
		{api.Pad{Down: 0x80, Latch: true, Shift: 0x80}, 0, api.Pad{Latch: true}},
		{api.Pad{Down: 1, Latch: true, Shift: 2}, 1, api.Pad{Down: 1, Latch: true, Shift: 1}},
	} {
		if got := Press(x.p, x.down); got != x.want {
			t.Errorf("Press(%+v, %#x): %+v, want %+v", x.p, x.down, got, x.want)
		}
	}
}

func TestWrite(t *testing.T) {
	p := api.Pad{Down: 0x5a, Shift: 0xc3}
	held := api.Pad{Down: 0x5a, Latch: true, Shift: 0xc3}
	for b := range 256 {
		want := api.Pad{Down: 0x5a, Shift: 0xc3}
		if b%2 == 1 {
			want = api.Pad{Down: 0x5a, Latch: true, Shift: 0x5a}
		}
		if got := Write(p, byte(b)); got != want {
			t.Errorf("Write(%+v, %#x): %+v, want %+v", p, b, got, want)
		}
		if got := Write(held, byte(b)); got != want {
			t.Errorf("Write(%+v, %#x): %+v, want %+v", held, b, got, want)
		}
	}
}

func TestRead(t *testing.T) {
	for _, x := range []struct {
		p    api.Pad
		want byte
		then api.Pad
	}{
		{api.Pad{}, 0, api.Pad{Shift: 1}},
		{api.Pad{Down: 0x80}, 0, api.Pad{Down: 0x80, Shift: 1}},
		{api.Pad{Shift: 0x80}, 1, api.Pad{Shift: 1}},
		{api.Pad{Shift: 0x7f}, 0, api.Pad{Shift: 0xff}},
		{api.Pad{Shift: 0xff}, 1, api.Pad{Shift: 0xff}},
		{api.Pad{Down: 0x80, Latch: true}, 1, api.Pad{Down: 0x80, Latch: true}},
		{api.Pad{Down: 0x7f, Latch: true, Shift: 0x80}, 0, api.Pad{Down: 0x7f, Latch: true, Shift: 0x80}},
	} {
		if got, then := Read(x.p); got != x.want || then != x.then {
			t.Errorf("Read(%+v): %d, %+v, want %d, %+v", x.p, got, then, x.want, x.then)
		}
	}
}

func TestReadEachPad(t *testing.T) {
	eachPad(func(p api.Pad) {
		want, then := bit(p.Down, 7), p
		if !p.Latch {
			want, then.Shift = bit(p.Shift, 7), byte(int(p.Shift)*2%256+1)
		}
		if got, q := Read(p); got != want || q != then {
			t.Fatalf("Read(%+v): %d, %+v, want %d, %+v", p, got, q, want, then)
		}
	})
}

// Behind the eighth Read there is nothing but ones.
func TestReadPastTheLastButton(t *testing.T) {
	p := Write(Write(api.Pad{Down: 0x31}, 1), 0)
	for i, want := range []byte{0, 0, 1, 1, 0, 0, 0, 1, 1, 1, 1} {
		got := byte(0)
		if got, p = Read(p); got != want {
			t.Errorf("Read %d: %d, want %d", i, got, want)
		}
	}
}

// What is pressed while it is shifted out is told only behind the next Latch.
func TestPressWhileShifting(t *testing.T) {
	p := Write(Write(api.Pad{Down: 0x40}, 1), 0)
	_, p = Read(p)
	p = Press(p, 0x0f)
	b, p := Read(p)
	if want := (api.Pad{Down: 0x0f, Shift: 3}); b != 1 || p != want {
		t.Errorf("Read behind Press: %d, %+v, want 1, %+v", b, p, want)
	}
	if b, _ := All(p); b != 0x0f {
		t.Errorf("All behind Press: %#x, want 0xf", b)
	}
}

func TestAllTellsDown(t *testing.T) {
	eachPad(func(p api.Pad) {
		want := api.Pad{Down: p.Down, Shift: 0xff}
		if got, then := All(p); got != p.Down || then != want {
			t.Fatalf("All(%+v): %#x, %+v, want %#x, %+v", p, got, then, p.Down, want)
		}
	})
}

// All is what it is told to be: two Writes and eight Reads, the first one the highest bit.
func TestAllIsItsParts(t *testing.T) {
	eachPad(func(p api.Pad) {
		q, sum := Write(Write(p, 1), 0), 0
		for i := 7; i >= 0; i-- {
			b := byte(0)
			b, q = Read(q)
			sum += int(b) << i
		}
		if got, then := All(p); int(got) != sum || then != q {
			t.Fatalf("All(%+v): %#x, %+v, want %#x, %+v", p, got, then, sum, q)
		}
	})
}
