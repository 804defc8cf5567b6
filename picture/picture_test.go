package picture

import (
	"bytes"
	"math"
	"slices"
	"testing"

	"marquee/api"
)

func TestLineOfEachMemory(t *testing.T) {
	for n := range 4000 {
		m := someMemory(n)
		for y := range api.Lines {
			got, e := Line(m, y)
			for x := range api.Width {
				if want := pixel(m, x, y); got[x] != want || e != api.OK {
					t.Fatalf("Line(%d, %d), at %d: %d, %d, want %d, 0", m, y, x, got[x], e, want)
				}
			}
		}
	}
}

func TestOnOfEachMemory(t *testing.T) {
	for n := range 4000 {
		m := someMemory(n)
		for y := range api.Lines {
			all := lie(m, y)
			want := all[:min(2, len(all))]
			if l, more, e := On(m, y); !slices.Equal(l, want) || more != (len(all) > 2) || e != api.OK {
				t.Fatalf("On(%d, %d): %d, %t, %d, want %d of %d", m, y, l, more, e, want, all)
			}
		}
	}
}

func TestWholeOfEachMemory(t *testing.T) {
	for n := range 500 {
		m := someMemory(n)
		p, e := Whole(m)
		if len(p) != 8 || e != api.OK {
			t.Fatalf("Whole(%d): %d lines, %d", m, len(p), e)
		}
		for y, got := range p {
			if want, _ := Line(m, y); got != want {
				t.Fatalf("Whole(%d), line %d: %d, want %d", m, y, got, want)
			}
		}
	}
}

func TestGroundByHand(t *testing.T) {
	m := bare()
	copy(m[16:], []byte{0x1b, 0, 0, 0, 0, 0x6c, 0, 0})
	m[76], m[79] = 0xe4, 0xff // of the last tile
	m[1], m[4], m[7] = 0xff, 0xf1, 1
	for _, c := range []struct {
		x, y byte
		line int
		want [api.Width]byte
	}{
		{0, 0, 0, [16]byte{10, 11, 12, 13, 13, 12, 11, 10, 10, 11, 12, 13, 10, 11, 12, 13}},
		{0, 0, 3, [16]byte{10, 10, 10, 10, 13, 13, 13, 13, 10, 10, 10, 10, 10, 10, 10, 10}},
		{0, 0, 5, [16]byte{11, 12, 13, 10, 10, 10, 10, 10, 10, 10, 10, 10, 11, 12, 13, 10}},
		{2, 0, 5, [16]byte{13, 10, 10, 10, 10, 10, 10, 10, 10, 10, 11, 12, 13, 10, 11, 12}},
		{250, 0, 5, [16]byte{10, 10, 11, 12, 13, 10, 11, 12, 13, 10, 10, 10, 10, 10, 10, 10}},
		{0, 13, 0, [16]byte{10, 10, 10, 10, 10, 10, 10, 10, 10, 10, 10, 10, 10, 10, 10, 10}},
		{0, 13, 6, [16]byte{10, 10, 10, 10, 13, 13, 13, 13, 10, 10, 10, 10, 10, 10, 10, 10}},
		{0, 255, 1, [16]byte{10, 11, 12, 13, 13, 12, 11, 10, 10, 11, 12, 13, 10, 11, 12, 13}},
		{255, 255, 1, [16]byte{13, 10, 11, 12, 13, 13, 12, 11, 10, 10, 11, 12, 13, 10, 11, 12}},
	} {
		m[168], m[169] = c.x, c.y
		if got, e := Line(m, c.line); got != c.want || e != api.OK {
			t.Errorf("line %d, moved by %d, %d: %d, %d, want %d, 0", c.line, c.x, c.y, got, e, c.want)
		}
	}
}

// Without sprites a picture is moved as a whole: by what it is moved, only its pixels' places tell.
func TestMovedAsAWhole(t *testing.T) {
	for n := range 20 {
		m := someMemory(n)
		for k := range 8 {
			m[128+4*k] = byte(8 + 31*k)
		}
		ground := make([][api.Width]byte, 16)
		for y := range ground {
			m[168], m[169] = 0, byte(y)
			ground[y], _ = Line(m, 0)
		}
		for a := range 256 {
			m[168], m[169] = byte(a), byte(a*7+n)
			for y := range api.Lines {
				got, _ := Line(m, y)
				for x, p := range got {
					if want := ground[(y+int(m[169]))%16][(x+a)%16]; p != want {
						t.Fatalf("moved by %d, %d, at %d, %d: %d, want %d", m[168], m[169], x, y, p, want)
					}
				}
			}
		}
	}
}

func TestWrong(t *testing.T) {
	right := someMemory(1)
	for _, c := range []struct {
		m    []byte
		y    int
		want api.Errno
	}{
		{nil, 0, api.ErrForm},
		{[]byte{}, 0, api.ErrForm},
		{right[:255], 0, api.ErrForm},
		{append(bytes.Clone(right), 0), 0, api.ErrForm},
		{make([]byte, 512), 7, api.ErrForm},
		{right[:255], -1, api.ErrForm},
		{nil, 8, api.ErrForm},
		{right, -1, api.ErrRange},
		{right, 8, api.ErrRange},
		{right, 9, api.ErrRange},
		{right, 256, api.ErrRange},
		{right, 1 << 32, api.ErrRange},
		{right, -1 << 32, api.ErrRange},
		{right, math.MinInt, api.ErrRange},
		{right, math.MaxInt, api.ErrRange},
	} {
		if out, e := Line(c.m, c.y); out != [16]byte{} || e != c.want {
			t.Errorf("Line of %d bytes, %d: %d, %d, want zero, %d", len(c.m), c.y, out, e, c.want)
		}
		if l, more, e := On(c.m, c.y); len(l) != 0 || more || e != c.want {
			t.Errorf("On of %d bytes, %d: %d, %t, %d, want zero, %d", len(c.m), c.y, l, more, e, c.want)
		}
		if c.want != api.ErrForm {
			continue
		}
		if p, e := Whole(c.m); len(p) != 0 || e != api.ErrForm {
			t.Errorf("Whole of %d bytes: %d lines, %d, want none, %d", len(c.m), len(p), e, api.ErrForm)
		}
	}
}

// What is handed in is only read, its spare room too; and what was answered is nobody else's.
func TestOnlyRead(t *testing.T) {
	for n := range 50 {
		room := append(someMemory(n), 1, 2, 3, 4)
		was := bytes.Clone(room)
		m := room[:256]
		p, _ := Whole(m)
		again, _ := Whole(m)
		for y := range api.Lines {
			Line(m, y)
			l, _, _ := On(m, y)
			want := slices.Clone(l)
			for i := range l {
				l[i] = -1
			}
			if next, _, _ := On(m, y); !slices.Equal(next, want) {
				t.Fatalf("On(%d, %d): %d, then %d", m, y, want, next)
			}
			p[y] = [16]byte{}
			if want, _ := Line(m, y); again[y] != want {
				t.Fatalf("Whole(%d): two answers share line %d", m, y)
			}
		}
		if !bytes.Equal(room, was) {
			t.Fatalf("%d became %d", was, room)
		}
	}
}
