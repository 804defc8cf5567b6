package tape

import (
	"strings"
	"testing"

	"marquee/api"
)

func TestButtons(t *testing.T) {
	for _, c := range []struct {
		down byte
		want string
	}{
		{0, "........"},
		{0x80, "u......."},
		{0x40, ".d......"},
		{0x20, "..l....."},
		{0x10, "...r...."},
		{0x08, "....a..."},
		{0x04, ".....b.."},
		{0x02, "......s."},
		{0x01, ".......t"},
		{0x81, "u......t"},
		{0xf0, "udlr...."},
		{0x0f, "....abst"},
		{0x55, ".d.r.b.t"},
		{0xff, "udlrabst"},
	} {
		if got := Buttons(c.down); got != c.want {
			t.Errorf("%#x: %q, want %q", c.down, got, c.want)
		}
		if got, e := OfButtons(c.want); got != c.down || e != api.OK {
			t.Errorf("%q: %#x, %d, want %#x", c.want, got, e, c.down)
		}
	}
}

// All there are: each one back, no two alike.
func TestAllButtons(t *testing.T) {
	texts := map[string]bool{}
	for n := range 256 {
		s := Buttons(byte(n))
		texts[s] = true
		if got, e := OfButtons(s); len(s) != 8 || got != byte(n) || e != api.OK {
			t.Errorf("%#x: %q, then %#x, %d", n, s, got, e)
		}
	}
	if len(texts) != 256 {
		t.Errorf("%d texts", len(texts))
	}
}

// Whatever single byte stands at a place: the place's own letter, and the point, are the only right ones.
func TestEachLetter(t *testing.T) {
	for _, was := range []string{"udlrabst", "........", "u.l.a.s."} {
		for i := range was {
			for n := range 256 {
				s := was[:i] + string([]byte{byte(n)}) + was[i+1:]
				right := byte(n) == "udlrabst"[i] || n == '.'
				got, e := OfButtons(s)
				if right && (e != api.OK || Buttons(got) != s) || !right && (e != api.ErrText || got != 0) {
					t.Errorf("%q: %#x, %d", s, got, e)
				}
			}
		}
	}
}

func TestNoButtons(t *testing.T) {
	for _, s := range []string{
		"", ".", "u", ".......", "udlrabs", "dlrabst", ".........", "udlrabst.", ".udlrabst", "udlrabstu", "udlrabst\n", " udlrabs", "udlrabs ",
		"UDLRABST", "du......", ".u......", "tsbarldu", "lrudabst", "uuuuuuuu", "--------", "00000000", "11111111", "u\x00......", "\x00\x00\x00\x00\x00\x00\x00\x00",
		"ü......", "........ü", "\xff.......", "u…....", strings.Repeat(".", 16), strings.Repeat("udlrabst", 600),
	} {
		if got, e := OfButtons(s); got != 0 || e != api.ErrText {
			t.Errorf("%q: %#x, %d", s, got, e)
		}
	}
}
