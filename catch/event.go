package catch

import (
	"math"

	"marquee/api"
	"marquee/beam"
	"marquee/lock"
	"marquee/timer"
)

// never is a clock that no machine comes to.
const never = math.MaxInt

// event tells the clock at which a thing is due next, when what is due now is done: always a later one.
type event func() int

// eventsOf makes the events of a console. Samples aren't among them: those in between are shown when the sound catches up.
func eventsOf(c *lock.Console) []event {
	m := c.Machine
	return []event{
		func() int { return nextPress(c.Coming) },
		func() int { return m.Clock + toLine(m.B) },
		func() int { return nextMain(m) },
		func() int { return nextAux(m) },
	}
}

func nextPress(coming []api.Input) int {
	if len(coming) == 0 {
		return never
	}
	return coming[0].Clock
}

// toLine tells in how many clocks a line begins, one that isn't seen too: with the first of those the beam rings.
func toLine(b api.Beam) int {
	// From the next clock on: a line that begins now is shown already.
	later, _ := beam.Run(b, 1)
	clocks, _ := beam.Next(later)
	return 1 + clocks
}

// nextMain: a main processor that sleeps may be rung by the timer; when the beam rings, a line begins, which is an event anyway.
func nextMain(m *api.Machine) int {
	switch {
	case !asleep(m.Main, m.T.Rings || m.B.Rings):
		return m.MainReady
	case m.Main.May && m.T.On:
		return m.Clock + timer.Next(m.T)
	}
	return never
}

// nextAux: only a step of the main processor lets the other one go, or rings it; and that is an event.
func nextAux(m *api.Machine) int {
	if m.Held || asleep(m.Aux, m.Rung) {
		return never
	}
	return m.AuxReady
}

// asleep tells whether a processor's steps do nothing but take their time, until something rings that doesn't yet; who may not be interrupted sleeps on then.
func asleep(c api.Cpu, rung bool) bool {
	return c.Waits && !(rung && c.May)
}
