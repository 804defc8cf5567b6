package tape

import (
	"bytes"
	"math"
	"reflect"
	"slices"
	"testing"

	"marquee/api"
	"marquee/asm"
	"marquee/bus"
	"marquee/catch"
	"marquee/lock"
)

// A program that, each frame, paints the ground by the first pad's buttons, and tells by mail to the other processor whether the first one of the second pad is down.
const mainText = `.word 6
.word ring
.word 0
ldi r7, 32896
ldi r1, 53248
ldi r3, 53264
ldi r2, 1
stb r3, r2, 0
go:
ei
hlt
jmp go
ring:
stb r1, r1, 8
ldi r2, 1
stb r1, r2, 0
ldi r2, 0
stb r1, r2, 0
ldi r6, 0
ldi r4, 8
bits:
shl r6, 1
ldb r2, r1, 0
or r6, r2
addi r4, -1
jnz bits
ldi r5, 49312
stb r5, r6, 0
ldb r2, r1, 1
stb r3, r2, 1
rti
`

// Another one that plays what comes by mail.
const auxText = `.word 6
.word ring
.word 0
ldi r7, 32832
ldi r1, 53248
ldi r3, 53264
ldi r2, 9
stb r1, r2, 2
go:
ei
hlt
jmp go
ring:
ldb r2, r3, 8
stb r1, r2, 1
rti
`

// built tells the bytes of a program.
func built(t testing.TB, text string) []byte {
	t.Helper()
	rom, at, e := asm.Build(text)
	if e != api.OK {
		t.Fatalf("line %d: %d", at, e)
	}
	return rom
}

// plain tells lists without anything in them as nil: either is right.
func plain(m api.Machine) api.Machine {
	for _, l := range []*[]byte{&m.MainRom, &m.AuxRom, &m.Ram, &m.Own, &m.Video} {
		if len(*l) == 0 {
			*l = nil
		}
	}
	return m
}

func sameMachine(a, b api.Machine) bool { return reflect.DeepEqual(plain(a), plain(b)) }

func sameShown(a, b api.Shown) bool {
	return slices.Equal(a.Lines, b.Lines) && bytes.Equal(a.Samples, b.Samples) && slices.Equal(a.Writes, b.Writes)
}

var pressed = []api.Input{{Clock: 5, Down: 0x81}, {Clock: 300, Pad: 1, Down: 0x40}, {Clock: 700, Down: 0x5a}, {Clock: 700, Pad: 1, Down: 0x82}, {Clock: 9000, Down: 3}, {Clock: 399999}}

// However many frames: what chapters 10 and 11 tell.
func TestPlay(t *testing.T) {
	main, aux := built(t, mainText), built(t, auxText)
	for frames := range 21 {
		m, s, e := Play(main, aux, pressed, frames)
		begin, _ := bus.New(main, aux)
		want, shown, wanted := lock.Run(begin, pressed, 640*frames)
		if e != api.OK || wanted != api.OK || !sameMachine(m, want) || !sameShown(s, shown) {
			t.Errorf("%d frames: %+v, %d, want %+v", frames, m, e, want)
		}
		if m.Clock != 640*frames || m.B.Frame != frames || m.B.Line != 0 || m.B.At != 0 || len(s.Lines) != 8*frames || len(s.Samples) != 40*frames {
			t.Errorf("%d frames: Clock %d, %+v, %d lines, %d samples", frames, m.Clock, m.B, len(s.Lines), len(s.Samples))
		}
		if again, other, _ := catch.Run(begin, pressed, 640*frames); !sameMachine(m, again) || !sameShown(s, other) {
			t.Errorf("%d frames: catch tells another machine", frames)
		}
	}
}

// What was pressed is seen and heard.
func TestPressed(t *testing.T) {
	main, aux := built(t, mainText), built(t, auxText)
	m, s, e := Play(main, aux, pressed, 20)
	if e != api.OK || len(s.Writes) < 20 {
		t.Fatalf("%d, %v", e, s.Writes)
	}
	if m.Pads[0].Down != 3 || m.Pads[1].Down != 0x82 || m.Mail[0] != 1 || m.S.V[0].Period != 1 {
		t.Errorf("%+v, mail %v, %+v", m.Pads, m.Mail, m.S.V[0])
	}
	// The first lines are drawn while the program still reads the buttons.
	for frame, want := range map[int][2]byte{0: {0, 0}, 1: {0, 0x81}, 2: {0x81, 0x5a}, 3: {0x5a, 0x5a}, 19: {3, 3}} {
		p, e := Frame(s, frame)
		if e != api.OK || p[0][0] != want[0] || p[7][15] != want[1] {
			t.Errorf("frame %d: %v, %d, want %v", frame, p, e, want)
		}
	}
}

func TestNoPrograms(t *testing.T) {
	m, s, e := Play(nil, nil, nil, 3)
	if e != api.OK || !m.Held || m.Clock != 1920 || len(s.Lines) != 24 || len(s.Writes) != 0 {
		t.Errorf("%+v, %d", m, e)
	}
	begin, _ := bus.New(nil, nil)
	if m, s, e := Play([]byte{}, []byte{}, []api.Input{}, 0); e != api.OK || !sameMachine(m, begin) || !sameShown(s, api.Shown{}) {
		t.Errorf("%+v, %+v, %d", m, s, e)
	}
}

// Of several errors the first one is told, with nothing else.
func TestWrongPlays(t *testing.T) {
	right, long := make([]byte, api.MaxRom), make([]byte, api.MaxRom+1)
	bad := []api.Input{{Pad: 2}}
	for i, c := range []struct {
		main, aux []byte
		inputs    []api.Input
		frames    int
		want      api.Errno
	}{
		{right, right, nil, 20, api.OK},
		{right, right, nil, 0, api.OK},
		{long, nil, nil, 1, api.ErrMany},
		{nil, long, nil, 1, api.ErrMany},
		{long, nil, bad, -1, api.ErrMany},
		{nil, long, bad, 21, api.ErrMany},
		{right, right, nil, 21, api.ErrRange},
		{right, right, nil, -1, api.ErrRange},
		{nil, nil, bad, 21, api.ErrRange},
		{nil, nil, times(41, api.Input{}), -1, api.ErrRange},
		{nil, nil, nil, math.MaxInt, api.ErrRange},
		{nil, nil, nil, math.MinInt, api.ErrRange},
		{nil, nil, nil, 1 << 57, api.ErrRange}, // of whose clocks nothing is left but 0
		{nil, nil, nil, 1<<57 + 1, api.ErrRange},
		{nil, nil, bad, 0, api.ErrWho},
		{nil, nil, bad, 20, api.ErrWho},
		{nil, nil, times(40, api.Input{Clock: 400000}), 1, api.OK},
		{nil, nil, times(41, api.Input{}), 1, api.ErrMany},
		{nil, nil, []api.Input{{Clock: -1}}, 1, api.ErrRange},
		{nil, nil, []api.Input{{Clock: 400001}}, 1, api.ErrRange},
		{nil, nil, []api.Input{{Clock: 9}, {Clock: 8, Pad: 2}}, 1, api.ErrRange},
	} {
		m, s, e := Play(c.main, c.aux, c.inputs, c.frames)
		if e != c.want || e != api.OK && !reflect.DeepEqual([]any{m, s}, []any{api.Machine{}, api.Shown{}}) {
			t.Errorf("%d: %+v, %+v, %d, want %d", i, m, s, e, c.want)
		}
	}
}

// What is handed in stays, with its spare room, and is no part of the answer.
func TestMemoryOfPlay(t *testing.T) {
	main, aux := append(built(t, mainText), 1, 2, 3), append(built(t, auxText), 4, 5)
	inputs := append(slices.Clone(pressed), api.Input{Clock: 7, Pad: 9})
	wasMain, wasAux, wasInputs := bytes.Clone(main), bytes.Clone(aux), slices.Clone(inputs)
	play := func() (api.Machine, api.Shown) {
		m, s, _ := Play(main[:len(main)-3], aux[:len(aux)-2], inputs[:len(pressed)], 3)
		return m, s
	}
	m, s := play()
	again, other := play()
	for _, l := range [][]byte{m.MainRom, m.AuxRom, m.Ram, m.Own, m.Video, s.Samples} {
		l = l[:cap(l)]
		for i := range l {
			l[i] ^= 0xee
		}
	}
	if !bytes.Equal(main, wasMain) || !bytes.Equal(aux, wasAux) || !slices.Equal(inputs, wasInputs) {
		t.Errorf("what was handed in is changed")
	}
	if m, s := play(); !sameMachine(m, again) || !sameShown(s, other) {
		t.Errorf("two answers share memory")
	}
}

// shownLine tells a line that can be told from others by its first pixel.
func shownLine(frame, line int, pixel byte) api.Line {
	return api.Line{Frame: frame, Line: line, Pixels: [api.Width]byte{pixel, byte(frame), byte(line)}}
}

// whole tells all lines of a frame, with pixels from first on.
func whole(frame int, first byte) []api.Line {
	var l []api.Line
	for i := range 8 {
		l = append(l, shownLine(frame, i, first+byte(i)))
	}
	return l
}

// pixels tells the first one of each line.
func pixels(l [][api.Width]byte) string {
	var s []byte
	for _, p := range l {
		s = append(s, p[0])
	}
	return string(s)
}

func TestFrame(t *testing.T) {
	a, b := whole(3, 'a'), whole(4, 'A')
	for i, c := range []struct {
		lines []api.Line
		frame int
		want  string // "": no frame
	}{
		{nil, 0, ""},
		{[]api.Line{}, 0, ""},
		{a, 3, "abcdefgh"},
		{a, 4, ""},
		{a, -3, ""},
		{slices.Concat(a, b), 3, "abcdefgh"},
		{slices.Concat(a, b), 4, "ABCDEFGH"},
		{slices.Concat(b, a), 3, "abcdefgh"},
		{slices.Concat(a[:5], b, a[5:]), 3, "abcdefgh"},
		{slices.Concat(a[:5], b, a[5:]), 4, "ABCDEFGH"},
		{a[:7], 3, ""},
		{a[1:], 3, ""},
		{slices.Concat(a[:4], a[5:]), 3, ""},
		{slices.Concat(a[:4], b[4:]), 3, ""},
		{slices.Concat(a[4:], a[:4]), 3, ""},
		{slices.Concat(a[4:], a), 3, "abcdefgh"},
		{slices.Concat(a[4:], a[:4], a[4:]), 3, "abcdefgh"},
		{slices.Concat(a, whole(3, 'q')), 3, "abcdefgh"},
		{slices.Concat(a[:4], whole(3, 'q')), 3, "abcduvwx"},
		{slices.Concat(whole(3, 'q')[5:], a), 3, "abcdefgh"},
		{slices.Concat(a[:1], whole(3, 'q')[:3], a[1:]), 3, "arsdefgh"},
		{slices.Concat(a, []api.Line{shownLine(3, 8, 'x')}), 3, ""}, // these are nine
		{slices.Concat(a, []api.Line{shownLine(4, 8, 'x'), shownLine(3, 9, 'y'), shownLine(3, -1, 'z')}), 3, "abcdefgh"},
		{slices.Concat([]api.Line{shownLine(3, 8, 'x')}, a), 3, "abcdefgh"},
		{whole(-7, 'a'), -7, "abcdefgh"},
		{whole(math.MaxInt, 'a'), math.MaxInt, "abcdefgh"},
	} {
		p, e := Frame(api.Shown{Lines: c.lines, Samples: []byte{1}}, c.frame)
		wanted := api.OK
		if c.want == "" {
			wanted = api.ErrWho
		}
		if e != wanted || pixels(p) != c.want || e != api.OK && p != nil {
			t.Errorf("%d: %q, %d, want %q", i, pixels(p), e, c.want)
		}
	}
}

// modelFrame tells what Frame must: each line is looked for behind the one above it.
func modelFrame(l []api.Line, frame int) ([][api.Width]byte, api.Errno) {
	var out [][api.Width]byte
	for k := 0; ; k++ {
		i := slices.IndexFunc(l, func(one api.Line) bool { return one.Frame == frame && one.Line == k })
		if i < 0 {
			break
		}
		out, l = append(out, l[i].Pixels), l[i+1:]
	}
	if len(out) != 8 {
		return nil, api.ErrWho
	}
	return out, api.OK
}

// Lines in any order, some of them wrong.
func TestAnyFrame(t *testing.T) {
	next := noise(4)
	frames, none := 0, 0
	for range 20000 {
		var l []api.Line
		for i := range 60 + next(60) {
			l = append(l, shownLine(next(2), (i/2+next(5))%9, byte(i)))
		}
		p, e := Frame(api.Shown{Lines: l}, 1)
		want, wanted := modelFrame(l, 1)
		if !slices.Equal(p, want) || e != wanted {
			t.Fatalf("%v: %v, %d, want %v", l, p, e, want)
		}
		if e == api.OK {
			frames++
		} else {
			none++
		}
	}
	if frames < 500 || none < 500 {
		t.Errorf("%d frames, %d times none", frames, none)
	}
}

// Of all frames that a play shows, each one is found, and none besides.
func TestFramesOfPlay(t *testing.T) {
	_, s, _ := Play(built(t, mainText), built(t, auxText), pressed, 20)
	for frame := range 20 {
		p, e := Frame(s, frame)
		if e != api.OK || len(p) != 8 {
			t.Fatalf("frame %d: %d lines, %d", frame, len(p), e)
		}
		for i := range p {
			if p[i] != s.Lines[8*frame+i].Pixels {
				t.Errorf("frame %d, line %d: %v", frame, i, p[i])
			}
		}
	}
	for _, frame := range []int{-1, 20, 21, math.MinInt, math.MaxInt} {
		if p, e := Frame(s, frame); p != nil || e != api.ErrWho {
			t.Errorf("frame %d: %v, %d", frame, p, e)
		}
	}
}

// Of a run that begins or ends within a frame, this one isn't whole.
func TestPartsOfFrames(t *testing.T) {
	m, _ := bus.New(nil, nil)
	m.B = api.Beam{Line: 0, At: 1, Frame: 100}
	_, s, _ := lock.Run(m, nil, 639+640+448)
	for frame, want := range map[int]api.Errno{99: api.ErrWho, 100: api.ErrWho, 101: api.OK, 102: api.ErrWho} {
		if _, e := Frame(s, frame); e != want {
			t.Errorf("frame %d: %d, want %d", frame, e, want)
		}
	}
	_, s, _ = lock.Run(m, nil, 639+640+449)
	if _, e := Frame(s, 102); e != api.OK {
		t.Errorf("frame 102, with the first clock of its last line: %d", e)
	}
}

// What was shown stays, with its spare room, and shares nothing with a frame of it.
func TestMemoryOfFrame(t *testing.T) {
	lines := slices.Concat(whole(3, 'a'), whole(3, 'q'))
	was := slices.Clone(lines)
	s := api.Shown{Lines: lines[:8]}
	p, _ := Frame(s, 3)
	again, _ := Frame(s, 3)
	for i := range p {
		p[i][0] = 'x'
	}
	if !slices.Equal(lines, was) {
		t.Errorf("what was shown is changed")
	}
	if pixels(again) != "abcdefgh" {
		t.Errorf("two answers share memory: %q", pixels(again))
	}
}
