package catch

import (
	"marquee/api"
	"marquee/beam"
	"marquee/lock"
	"marquee/timer"
	"marquee/tone"
)

// part lets a part of the machine catch up: it goes on from the machine's clock to a later one, up to which nothing is due.
type part func(to int)

// partsOf makes the parts of a console. An error could come of the beam alone, of frames of which nothing is promised.
func partsOf(c *lock.Console) []part {
	m := c.Machine
	return []part{
		func(to int) { m.MainReady = sleptTo(m.MainReady, to, api.MainTime) },
		func(to int) {
			if !m.Held {
				m.AuxReady = sleptTo(m.AuxReady, to, api.AuxTime)
			}
		},
		func(to int) { m.T, _ = timer.Run(m.T, to-m.Clock) },
		func(to int) { m.B, _ = beam.Run(m.B, to-m.Clock) },
		func(to int) { soundTo(c, to) },
	}
}

// sleptTo tells when a processor is ready that would have been ahead of a clock: it slept through the steps that were due until then, each of one cycle.
func sleptTo(ready, clock, cycle int) int {
	if ready >= clock {
		return ready
	}
	steps := (clock - ready + cycle - 1) / cycle
	return ready + steps*cycle
}

// soundTo lets the sound of a console catch up, and shows its samples.
func soundTo(c *lock.Console, to int) {
	m := c.Machine
	samples, later, _ := tone.Samples(m.S, to-m.Clock)
	if m.S.Wait == 0 {
		// The first one was due now: it is shown already, as it was ahead of the steps.
		samples = samples[1:]
	}
	c.Shown.Samples = append(c.Shown.Samples, samples...)
	m.S = later
}
