package save

import "marquee/api"

// carrier takes parts of a machine, one behind the other: a writer lays them down as bytes, a reader fills them from bytes. Each part has one way to be written, so that bytes are those of one machine at most.
type carrier interface {
	bytes(l ...*byte)
	bools(l ...*bool)
	words(l ...*uint16)
	numbers(l ...*int)
	lists(l ...*[]byte)
}

// carry hands over all parts of a machine. What stands where is told here alone, for writers and readers: they can't differ in it.
func carry(by carrier, m *api.Machine) {
	for _, c := range [2]*api.Cpu{&m.Main, &m.Aux} {
		carryCpu(by, c)
	}
	by.lists(&m.MainRom, &m.AuxRom, &m.Ram, &m.Own, &m.Video)
	for i := range m.Pads {
		p := &m.Pads[i]
		by.bytes(&p.Down, &p.Shift)
		by.bools(&p.Latch)
	}
	by.words(&m.T.Reload, &m.T.Count)
	by.bools(&m.T.On, &m.T.Rings)
	carrySound(by, &m.S)
	by.numbers(&m.B.Line, &m.B.At, &m.B.Frame)
	by.bools(&m.B.Rings)
	by.words(&m.From, &m.To)
	by.bytes(&m.Mail[0], &m.Mail[1])
	by.bools(&m.Granted, &m.Held, &m.Rung)
	by.numbers(&m.Clock, &m.MainReady, &m.AuxReady)
}

func carryCpu(by carrier, c *api.Cpu) {
	for i := range c.R {
		by.words(&c.R[i])
	}
	by.words(&c.PC)
	by.bools(&c.Z, &c.N, &c.C, &c.V, &c.May, &c.Waits)
}

func carrySound(by carrier, s *api.Sound) {
	for i := range s.V {
		v := &s.V[i]
		by.words(&v.Period, &v.Count, &v.Noise)
		by.bytes(&v.Loud)
		by.bools(&v.High)
	}
	by.numbers(&s.Wait)
}
