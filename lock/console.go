package lock

import (
	"marquee/api"
	"marquee/beam"
	"marquee/bus"
	"marquee/cpu"
	"marquee/pad"
	"marquee/picture"
	"marquee/timer"
	"marquee/tone"
)

// console is a machine that runs, and what it has shown.
type console struct {
	board  *bus.Board
	m      *api.Machine // the board's
	coming []api.Input  // what isn't pressed yet
	shown  api.Shown    // but for the writes: these the board keeps
}

// clock is one of them. What is shown is as it was ahead of the processors' steps, what goes on does so by what they made of it.
func (c *console) clock() {
	c.press()
	c.showLine()
	c.showSample()
	c.stepMain()
	c.stepAux()
	c.goOn()
}

// all tells what was shown.
func (c *console) all() api.Shown {
	c.shown.Writes = c.board.Writes
	return c.shown
}

func (c *console) press() {
	for len(c.coming) > 0 && c.coming[0].Clock <= c.m.Clock {
		in := c.coming[0]
		c.m.Pads[in.Pad] = pad.Press(c.m.Pads[in.Pad], in.Down)
		c.coming = c.coming[1:]
	}
}

func (c *console) showLine() {
	b := c.m.B
	if b.At != 0 || b.Line >= api.Lines {
		return
	}
	// No error: the board's picture has its size.
	pixels, _ := picture.Line(c.m.Video, b.Line)
	c.shown.Lines = append(c.shown.Lines, api.Line{Frame: b.Frame, Line: b.Line, Pixels: pixels})
}

func (c *console) showSample() {
	if c.m.S.Wait != 0 {
		return
	}
	// The sound itself goes on later: the other processor may still write to it.
	sample, _, _ := tone.Samples(c.m.S, 1)
	c.shown.Samples = append(c.shown.Samples, sample...)
}

func (c *console) stepMain() {
	m := c.m
	if m.MainReady > m.Clock {
		return
	}
	c.board.Taken = 0
	cycles := 0
	m.Main, cycles = cpu.Do(m.Main, c.board.Main(), m.T.Rings || m.B.Rings)
	m.MainReady = m.Clock + api.MainTime*cycles + c.board.Taken
}

func (c *console) stepAux() {
	m := c.m
	if m.Held || m.AuxReady > m.Clock {
		return
	}
	cycles := 0
	m.Aux, cycles = cpu.Do(m.Aux, c.board.Aux(), m.Rung)
	m.AuxReady = m.Clock + api.AuxTime*cycles
}

// goOn lets all that no processor does go on by a clock. An error could come of the beam alone, of frames of which nothing is promised.
func (c *console) goOn() {
	m := c.m
	m.T = timer.Tick(m.T)
	_, m.S, _ = tone.Samples(m.S, 1)
	m.B, _ = beam.Run(m.B, 1)
	m.Clock++
}
