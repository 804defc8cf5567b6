package picture

import (
	"slices"
	"testing"

	"marquee/api"
)

// spriteMemory has a ground of dots 0, but of 2 in the columns 8 to 11; tile 2 is to be told each way round, tile 3 is full of dots 3.
func spriteMemory(sprites ...byte) []byte {
	m := bare()
	for y := range 4 {
		m[4*y+2] = 1
		m[20+y] = 0xaa
	}
	copy(m[24:], []byte{0x1b, 0x40, 0, 0x03})
	copy(m[28:], []byte{0xff, 0xff, 0xff, 0xff})
	copy(m[128:], sprites)
	return m
}

func TestSpritesByHand(t *testing.T) {
	for _, c := range []struct {
		what    string
		sprites []byte
		y       int
		want    [api.Width]byte
	}{
		{"none", nil, 0, [16]byte{8: 12, 12, 12, 12}},
		{"one", []byte{0, 0, 2, 0}, 0, [16]byte{0, 15, 16, 17, 8: 12, 12, 12, 12}},
		{"its second row", []byte{0, 0, 2, 0}, 1, [16]byte{0: 15, 8: 12, 12, 12, 12}},
		{"its third row", []byte{0, 0, 2, 0}, 2, [16]byte{8: 12, 12, 12, 12}},
		{"its last row", []byte{0, 0, 2, 0}, 3, [16]byte{3: 17, 8: 12, 12, 12, 12}},
		{"below it", []byte{0, 0, 3, 0}, 4, [16]byte{8: 12, 12, 12, 12}},
		{"above it", []byte{5, 0, 3, 0}, 4, [16]byte{8: 12, 12, 12, 12}},
		{"its columns turned", []byte{0, 0, 2, 1}, 0, [16]byte{17, 16, 15, 8: 12, 12, 12, 12}},
		{"its rows turned", []byte{0, 0, 2, 2}, 0, [16]byte{3: 17, 8: 12, 12, 12, 12}},
		{"its rows turned, the last one", []byte{4, 0, 2, 2}, 7, [16]byte{0, 15, 16, 17, 8: 12, 12, 12, 12}},
		{"both turned", []byte{0, 0, 2, 3}, 0, [16]byte{0: 17, 8: 12, 12, 12, 12}},
		{"other bits of how", []byte{0, 0, 2, 0x7c}, 0, [16]byte{0, 15, 16, 17, 8: 12, 12, 12, 12}},
		{"other bits of the tile", []byte{0, 0, 0xf2, 0}, 0, [16]byte{0, 15, 16, 17, 8: 12, 12, 12, 12}},
		{"in front of the ground", []byte{0, 6, 3, 0}, 0, [16]byte{6: 17, 17, 17, 17, 12, 12}},
		{"its dots of 0 on the ground", []byte{0, 8, 2, 0}, 0, [16]byte{8: 12, 15, 16, 17}},
		{"behind the ground", []byte{0, 6, 3, 0x80}, 0, [16]byte{6: 17, 17, 12, 12, 12, 12}},
		{"its last column seen", []byte{0, 15, 3, 0}, 0, [16]byte{8: 12, 12, 12, 12, 15: 17}},
		{"turned at the edge", []byte{0, 14, 2, 1}, 0, [16]byte{8: 12, 12, 12, 12, 14: 17, 16}},
		{"right of the picture", []byte{0, 16, 3, 0}, 0, [16]byte{8: 12, 12, 12, 12}},
		{"no column goes round", []byte{0, 254, 3, 0}, 0, [16]byte{8: 12, 12, 12, 12}},
		{"no line goes round", []byte{254, 0, 3, 0}, 0, [16]byte{8: 12, 12, 12, 12}},
		{"the first is on top", []byte{0, 0, 2, 0, 0, 1, 3, 0}, 0, [16]byte{0, 15, 16, 17, 17, 8: 12, 12, 12, 12}},
		{"through its dots of 0", []byte{0, 1, 2, 0, 0, 0, 3, 0}, 0, [16]byte{17, 17, 15, 16, 17, 8: 12, 12, 12, 12}},
		{"the first behind, the second not", []byte{0, 8, 3, 0x80, 0, 10, 3, 0}, 0, [16]byte{8: 12, 12, 12, 12, 17, 17}},
		{"the second behind", []byte{0, 7, 2, 0, 0, 7, 3, 0x80}, 0, [16]byte{7: 17, 15, 16, 17, 12}},
		{"a third one", []byte{0, 0, 2, 0, 0, 4, 2, 0, 0, 12, 3, 0}, 0, [16]byte{0, 15, 16, 17, 0, 15, 16, 17, 12, 12, 12, 12}},
		{"a third one behind two unseen", []byte{0, 16, 3, 0, 0, 0, 0, 0, 0, 12, 3, 0}, 0, [16]byte{8: 12, 12, 12, 12}},
		{"a third one on a line of its own", []byte{0, 0, 3, 0, 0, 4, 3, 0, 1, 12, 3, 0}, 4, [16]byte{8: 12, 12, 12, 12, 17, 17, 17, 17}},
	} {
		m := spriteMemory(c.sprites...)
		for x, p := range c.want {
			if p == 0 {
				c.want[x] = 10
			}
		}
		if got, e := Line(m, c.y); got != c.want || e != api.OK {
			t.Errorf("%s: %d, %d, want %d, 0", c.what, got, e, c.want)
		}
	}
}

// The ground is moved below the sprites; they stay.
func TestSpritesStay(t *testing.T) {
	m := spriteMemory(0, 6, 3, 0x80)
	m[168], m[169] = 2, 9
	want := [16]byte{10, 10, 10, 10, 10, 10, 12, 12, 12, 12, 10, 10, 10, 10, 10, 10}
	if got, e := Line(m, 0); got != want || e != api.OK {
		t.Errorf("moved: %d, %d, want %d, 0", got, e, want)
	}
	m[168] = 0
	want = [16]byte{10, 10, 10, 10, 10, 10, 17, 17, 12, 12, 12, 12, 10, 10, 10, 10}
	if got, e := Line(m, 0); got != want || e != api.OK {
		t.Errorf("moved down alone: %d, %d, want %d, 0", got, e, want)
	}
}

func TestOnByHand(t *testing.T) {
	for _, c := range []struct {
		what  string
		first [8]byte // lines
		y     int
		want  []int
		more  bool
	}{
		{"none", [8]byte{8, 9, 100, 252, 253, 254, 255, 200}, 0, nil, false},
		{"none below", [8]byte{8, 9, 0, 1, 2, 3, 255, 200}, 7, nil, false},
		{"the last one", [8]byte{8, 8, 8, 8, 8, 8, 8, 0}, 3, []int{7}, false},
		{"two", [8]byte{4, 8, 8, 7, 8, 8, 8, 8}, 7, []int{0, 3}, false},
		{"the last two", [8]byte{8, 8, 8, 8, 8, 8, 2, 5}, 5, []int{6, 7}, false},
		{"three", [8]byte{8, 5, 8, 4, 8, 8, 8, 3}, 5, []int{1, 3}, true},
		{"all", [8]byte{}, 0, []int{0, 1}, true},
	} {
		m := bare()
		for k, line := range c.first {
			m[128+4*k] = line
		}
		if l, more, e := On(m, c.y); !slices.Equal(l, c.want) || more != c.more || e != api.OK {
			t.Errorf("%s: %d, %t, %d, want %d, %t, 0", c.what, l, more, e, c.want, c.more)
		}
	}
}

// Each first line of a byte: it lies on its four lines, and doesn't come round.
func TestOnOfEachFirstLine(t *testing.T) {
	for first := range 256 {
		m := bare()
		m[128+4*5] = byte(first)
		for y := range api.Lines {
			l, more, e := On(m, y)
			lies := len(l) == 1 && l[0] == 5
			if lies != (first <= y && y <= first+3) || len(l) > 1 || more || e != api.OK {
				t.Errorf("first line %d, line %d: %d, %t, %d", first, y, l, more, e)
			}
		}
	}
}
