package lock

import (
	"marquee/api"
	"marquee/bus"
	"marquee/cpu"
	"marquee/pad"
	"marquee/picture"
	"marquee/tone"
)

// Console is a machine that runs, and what it has shown. Who runs it lets happen what is due Now, and lets go on then what no processor does, by as many clocks as nothing more is due for.
type Console struct {
	Machine *api.Machine // the console's own
	Coming  []api.Input  // what isn't pressed yet
	Shown   api.Shown    // but for the writes: these Done tells
	board   *bus.Board
}

// Open tells a console with a machine like m that may run for so many clocks; Run's error. Of the inputs it only reads.
func Open(m api.Machine, inputs []api.Input, clocks int) (*Console, api.Errno) {
	b, e := bus.Open(m)
	if e != api.OK {
		return nil, e
	}
	if e := CheckInputs(inputs, m.Clock); e != api.OK {
		return nil, e
	}
	// In this order: only so many clocks as may be can be added to.
	if clocks < 0 || clocks > api.MaxClocks || m.Clock+clocks > api.MaxTime {
		return nil, api.ErrRange
	}
	return &Console{Machine: &b.Machine, Coming: inputs, board: b}, api.OK
}

// Now does what is due at the machine's clock, once. What is shown is as it was ahead of the processors' steps.
func (c *Console) Now() {
	c.press()
	c.showLine()
	c.showSample()
	c.stepMain()
	c.stepAux()
}

// Done tells the machine, and all that was shown. The console isn't to be used any more then.
func (c *Console) Done() (api.Machine, api.Shown) {
	c.Shown.Writes = c.board.Writes
	return *c.Machine, c.Shown
}

func (c *Console) press() {
	for len(c.Coming) > 0 && c.Coming[0].Clock <= c.Machine.Clock {
		in := c.Coming[0]
		c.Machine.Pads[in.Pad] = pad.Press(c.Machine.Pads[in.Pad], in.Down)
		c.Coming = c.Coming[1:]
	}
}

func (c *Console) showLine() {
	b := c.Machine.B
	if b.At != 0 || b.Line >= api.Lines {
		return
	}
	// No error: the board's picture has its size.
	pixels, _ := picture.Line(c.Machine.Video, b.Line)
	c.Shown.Lines = append(c.Shown.Lines, api.Line{Frame: b.Frame, Line: b.Line, Pixels: pixels})
}

func (c *Console) showSample() {
	if c.Machine.S.Wait != 0 {
		return
	}
	// The sound itself goes on later: the other processor may still write to it.
	sample, _, _ := tone.Samples(c.Machine.S, 1)
	c.Shown.Samples = append(c.Shown.Samples, sample...)
}

func (c *Console) stepMain() {
	m := c.Machine
	if m.MainReady > m.Clock {
		return
	}
	c.board.Taken = 0
	cycles := 0
	m.Main, cycles = cpu.Do(m.Main, c.board.Main(), m.T.Rings || m.B.Rings)
	m.MainReady = m.Clock + api.MainTime*cycles + c.board.Taken
}

func (c *Console) stepAux() {
	m := c.Machine
	if m.Held || m.AuxReady > m.Clock {
		return
	}
	cycles := 0
	m.Aux, cycles = cpu.Do(m.Aux, c.board.Aux(), m.Rung)
	m.AuxReady = m.Clock + api.AuxTime*cycles
}
