package tape

import (
	"math"
	"math/big"
	"regexp"
	"slices"
	"strconv"
	"strings"
	"testing"

	"marquee/api"
	"marquee/lock"
)

// noise makes numbers that look like any, the same ones each time.
func noise(seed uint64) func(below int) int {
	return func(below int) int {
		seed = seed*6364136223846793005 + 1442695040888963407
		return int(seed>>33) % below
	}
}

// anyInputs tells so many right ones.
func anyInputs(next func(below int) int, n int) []api.Input {
	var l []api.Input
	for range n {
		l = append(l, api.Input{Clock: next(2*api.MaxTime + 1), Pad: next(2), Down: byte(next(256))})
	}
	slices.SortFunc(l, func(a, b api.Input) int { return a.Clock - b.Clock })
	return l
}

// times tells so many inputs of one clock.
func times(n int, in api.Input) []api.Input { return slices.Repeat([]api.Input{in}, n) }

// Inputs, and the text of them: either is told of the other.
func TestBothWays(t *testing.T) {
	for _, c := range []struct {
		l []api.Input
		s string
	}{
		{nil, ""},
		{[]api.Input{}, ""},
		{[]api.Input{{}}, "0 0 ........\n"},
		{[]api.Input{{Clock: 10, Pad: 1, Down: 0x81}, {Clock: 12}}, "10 1 u......t\n12 0 ........\n"},
		{[]api.Input{{Clock: 7, Pad: 1, Down: 1}, {Clock: 7, Pad: 1, Down: 2}, {Clock: 7, Down: 3}}, "7 1 .......t\n7 1 ......s.\n7 0 ......st\n"},
		{[]api.Input{{Clock: 0, Down: 0xff}, {Clock: 400000, Pad: 1, Down: 0xff}}, "0 0 udlrabst\n400000 1 udlrabst\n"},
		{[]api.Input{{Clock: 200000}, {Clock: 200001}}, "200000 0 ........\n200001 0 ........\n"},
		{times(40, api.Input{Clock: 400000, Pad: 1, Down: 0x7e}), strings.Repeat("400000 1 .dlrabs.\n", 40)},
	} {
		if s, e := Print(c.l); s != c.s || e != api.OK {
			t.Errorf("%v: %q, %d, want %q", c.l, s, e, c.s)
		}
		if l, at, e := Parse(c.s); !slices.Equal(l, c.l) || at != 0 || e != api.OK {
			t.Errorf("%q: %v, %d, %d, want %v", c.s, l, at, e, c.l)
		}
	}
}

// P14.4, of inputs that look like any.
func TestBack(t *testing.T) {
	next := noise(1)
	for range 3000 {
		l := anyInputs(next, next(api.MaxInputs+1))
		s, e := Print(l)
		if e != api.OK || strings.Count(s, "\n") != len(l) {
			t.Fatalf("%v: %q, %d", l, s, e)
		}
		if again, at, e := Parse(s); !slices.Equal(again, l) || at != 0 || e != api.OK {
			t.Fatalf("%v: %q, then %v, %d, %d", l, s, again, at, e)
		}
	}
}

// Each clock and each pad that may be, each button.
func TestEachBack(t *testing.T) {
	for clock := 0; clock <= 2*api.MaxTime; clock += 1 + clock/100 {
		in := api.Input{Clock: clock, Pad: clock % 2, Down: byte(clock)}
		want := strconv.Itoa(clock) + " " + strconv.Itoa(clock%2) + " " + Buttons(byte(clock)) + "\n"
		s, e := Print([]api.Input{in})
		l, at, again := Parse(s)
		if s != want || e != api.OK || !slices.Equal(l, []api.Input{in}) || at != 0 || again != api.OK {
			t.Errorf("%v: %q, %d, then %v, %d, %d", in, s, e, l, at, again)
		}
	}
}

// wrongInputs, and what is wrong with them: of several things the first one.
var wrongInputs = []struct {
	l []api.Input
	e api.Errno
}{
	{times(41, api.Input{}), api.ErrMany},
	{times(41, api.Input{Clock: -1, Pad: 2}), api.ErrMany},
	{[]api.Input{{Clock: -1}}, api.ErrRange},
	{[]api.Input{{Clock: 400001}}, api.ErrRange},
	{[]api.Input{{Clock: math.MaxInt}}, api.ErrRange},
	{[]api.Input{{Clock: math.MinInt}}, api.ErrRange},
	{[]api.Input{{Clock: 5}, {Clock: 4}}, api.ErrRange},
	{[]api.Input{{Clock: 5}, {Clock: 5}, {Clock: 9}, {Clock: 8}}, api.ErrRange},
	{[]api.Input{{Clock: 5}, {Clock: 4}, {Clock: 7, Pad: 3}}, api.ErrRange},
	{[]api.Input{{Clock: 5}, {Clock: 4, Pad: 2}}, api.ErrRange},
	{[]api.Input{{Pad: 2}}, api.ErrWho},
	{[]api.Input{{Pad: -1}}, api.ErrWho},
	{[]api.Input{{Pad: math.MaxInt}}, api.ErrWho},
	{[]api.Input{{Pad: math.MinInt}}, api.ErrWho},
	{[]api.Input{{Clock: 5, Pad: 2}, {Clock: 4}}, api.ErrWho},
	{[]api.Input{{Clock: 5}, {Clock: 6, Pad: 10}, {Clock: 4}}, api.ErrWho},
}

// What may not be isn't printed; and, written so all the same, it isn't told either: at no line of its own.
func TestWrongInputs(t *testing.T) {
	for _, c := range wrongInputs {
		if s, e := Print(c.l); s != "" || e != c.e {
			t.Errorf("%v: %q, %d, want %d", c.l, s, e, c.e)
		}
		text := ""
		for _, in := range c.l {
			text += strconv.Itoa(in.Clock) + " " + strconv.Itoa(in.Pad) + " " + Buttons(in.Down) + "\n"
		}
		if l, at, e := Parse(text); l != nil || at != 0 || e != c.e {
			t.Errorf("%q: %v, %d, %d, want %d", text, l, at, e, c.e)
		}
	}
}

// Lines that aren't written so, alone and behind right ones.
func TestWrongLines(t *testing.T) {
	const right = "1 0 ........\n"
	for _, s := range []string{
		"\n", " \n", "\n\n", "\r\n", "0\n", "0 0\n", "0 0 \n", "0 0 .......\n", "0 0 .........\n", "0 0 ........ \n", " 0 0 ........\n", "0  0 ........\n", "0 0  ........\n",
		"0 0\t........\n", "0\t0 ........\n", "0 0 ........\r\n", "0 0 ........ 0\n", "0 0 0 ........\n", "0 ........\n", "0 ........ 0\n", "........ 0 0\n", "0 0 ........;\n", "# none\n",
		"01 0 ........\n", "00 0 ........\n", "+1 0 ........\n", "-0 0 ........\n", "-01 0 ........\n", "1.0 0 ........\n", "1e3 0 ........\n", "0x1 0 ........\n", "1_0 0 ........\n", "a 0 ........\n", " 0 ........\n",
		"1 00 ........\n", "1 01 ........\n", "1 +1 ........\n", "1 -0 ........\n", "1 x ........\n", "1  ........\n", "1 1. ........\n",
		"9223372036854775808 0 ........\n", "-9223372036854775809 0 ........\n", "1 9223372036854775808 ........\n", "99999999999999999999999 0 ........\n",
		"1 0 du......\n", "1 0 UDLRABST\n", "1 0 udlrabsx\n", "1 0 u\n", "1 0 ü......\n", "١ 0 ........\n", "1\x000 ........\n", "1 0 ........\x00\n", "\xff\n", "1\u00a00 ........\n",
	} {
		for _, ahead := range []int{0, 1, 2, 39, 40, 100} {
			for _, behind := range []string{"", right, "\n", "0 0 ........"} {
				text := strings.Repeat(right, ahead) + s + behind
				if l, at, e := Parse(text); l != nil || at != ahead || e != api.ErrText {
					t.Errorf("%q behind %d lines, ahead of %q: %v, %d, %d", s, ahead, behind, l, at, e)
				}
			}
		}
	}
}

// A last line without its line feed isn't one, however right it is else.
func TestNoLineFeed(t *testing.T) {
	for _, s := range []string{"0 0 ........", "10 1 u......t", "0", " ", "-1 0 ........", "1 2 ........"} {
		for _, ahead := range []int{0, 1, 7, 41} {
			text := strings.Repeat("0 1 ........\n", ahead) + s
			if l, at, e := Parse(text); l != nil || at != ahead || e != api.ErrText {
				t.Errorf("%q behind %d lines: %v, %d, %d", s, ahead, l, at, e)
			}
		}
	}
}

// How a line is written comes ahead of what it tells, wherever it stands.
func TestWrittenFirst(t *testing.T) {
	for _, c := range []struct {
		s  string
		at int
		e  api.Errno
	}{
		{"-1 0 ........\n0 0\n", 1, api.ErrText},
		{"5 0 ........\n4 0 ........\n4 0 ........", 2, api.ErrText},
		{"0 9 ........\n\n", 1, api.ErrText},
		{strings.Repeat("0 0 ........\n", 300) + "x\n", 300, api.ErrText},
		{strings.Repeat("0 0 ........\n", 307), 0, api.ErrMany},
		{"-1 0 ........\n", 0, api.ErrRange},
		{"0 -1 ........\n", 0, api.ErrWho},
		{"0 10 ........\n", 0, api.ErrWho},
		{"9223372036854775807 0 ........\n", 0, api.ErrRange},
		{"-9223372036854775808 0 ........\n", 0, api.ErrRange},
	} {
		if l, at, e := Parse(c.s); l != nil || at != c.at || e != c.e {
			t.Errorf("%q: %v, %d, %d, want %d, %d", c.s, l, at, e, c.at, c.e)
		}
	}
}

// Texts that are as long as they may be, and longer.
func TestMaxText(t *testing.T) {
	long := strings.Repeat("0 0 ........\n", 5)
	long += strings.Repeat("x", api.MaxText-len(long))
	for _, c := range []struct {
		s  string
		at int
		e  api.Errno
	}{
		{long[:3999], 5, api.ErrText},
		{long, 5, api.ErrText},
		{long + "\n", 0, api.ErrMany},
		{strings.Repeat("\n", 4000), 0, api.ErrText},
		{strings.Repeat("\n", 4001), 0, api.ErrMany},
		{strings.Repeat(" ", 4000), 0, api.ErrText},
		{strings.Repeat("é", 2000), 0, api.ErrText},
		{strings.Repeat("é", 2001), 0, api.ErrMany},
		{strings.Repeat("0 0 ........\n", 308), 0, api.ErrMany},
		{strings.Repeat("9", 1<<20), 0, api.ErrMany},
	} {
		if l, at, e := Parse(c.s); l != nil || at != c.at || e != c.e {
			t.Errorf("%d bytes: %v, %d, %d, want %d, %d", len(c.s), l, at, e, c.at, c.e)
		}
	}
}

var lineForm = regexp.MustCompile(`^(0|-?[1-9][0-9]*) (0|-?[1-9][0-9]*) ([u.][d.][l.][r.][a.][b.][s.][t.])$`)

// modelParse tells what Parse must, by other means.
func modelParse(s string) (l []api.Input, at int, e api.Errno) {
	if len(s) > 4000 {
		return nil, 0, api.ErrMany
	}
	for at, one := range strings.SplitAfter(s, "\n") {
		if one == "" {
			continue // behind the last line feed
		}
		parts := lineForm.FindStringSubmatch(strings.TrimSuffix(one, "\n"))
		if parts == nil || !strings.HasSuffix(one, "\n") {
			return nil, at, api.ErrText
		}
		var in api.Input
		for i, to := range []*int{&in.Clock, &in.Pad} {
			n, _ := new(big.Int).SetString(parts[i+1], 10)
			if !n.IsInt64() {
				return nil, at, api.ErrText
			}
			*to = int(n.Int64())
		}
		for i := range 8 {
			if parts[3][7-i] != '.' {
				in.Down += 1 << i
			}
		}
		l = append(l, in)
	}
	if e := lock.CheckInputs(l, 0); e != api.OK {
		return nil, 0, e
	}
	return l, 0, api.OK
}

// Texts with some bytes that are others, more, or gone.
func TestAnyText(t *testing.T) {
	next := noise(2)
	const bytesOf = "0123456789 -+.\nudlrabst. \n"
	told := map[api.Errno]int{}
	for range 60000 {
		s, _ := Print(anyInputs(next, 1+next(5)))
		for range next(4) {
			i := next(len(s) + 1)
			cut := min(len(s), i+next(2))
			s = s[:i] + bytesOf[next(len(bytesOf)):][:next(2)] + s[cut:]
		}
		l, at, e := Parse(s)
		wantL, wantAt, want := modelParse(s)
		if !slices.Equal(l, wantL) || at != wantAt || e != want {
			t.Fatalf("%q: %v, %d, %d, want %v, %d, %d", s, l, at, e, wantL, wantAt, want)
		}
		if e == api.OK {
			if again, _ := Print(l); again != s {
				t.Fatalf("%q is printed as %q", s, again)
			}
		}
		told[e]++
	}
	for _, e := range []api.Errno{api.OK, api.ErrText, api.ErrRange, api.ErrWho} {
		if told[e] < 100 {
			t.Errorf("error %d: %d times", e, told[e])
		}
	}
}

// Inputs that are printed stay, with their spare room; those that are told share nothing with others.
func TestMemory(t *testing.T) {
	all := anyInputs(noise(3), 9)
	was := slices.Clone(all)
	l := all[:6]
	s, _ := Print(l)
	first, _, _ := Parse(s)
	second, _, _ := Parse(s)
	if !slices.Equal(all, was) {
		t.Errorf("the inputs are changed")
	}
	for i := range first {
		first[i] = api.Input{}
	}
	if !slices.Equal(second, was[:6]) {
		t.Errorf("two answers share memory")
	}
}
