package bus

import (
	"marquee/api"
	"marquee/cpu"
	"marquee/pad"
	"marquee/timer"
	"marquee/tone"
	"marquee/word"
)

// portCount: the places of ports count by their lowest five bits.
const portCount = 32

// soundPorts: the first ones of the other processor.
const soundPorts = 24

// transferTime is what a byte of a transfer takes, in clocks.
const transferTime = 2

// Bits of what is read and written at ports.
const (
	bitOn      = 1 // of the timer
	bitRings   = 2
	bitGranted = 1 // of the other processor
	bitHeld    = 2
)

// port is one of a machine's. Where a function is nil, nothing is there.
type port struct {
	read  func() byte
	write func(n byte)
}

func (p port) get() byte {
	if p.read == nil {
		return nothing
	}
	return p.read()
}

func (p port) put(n byte) {
	if p.write != nil {
		p.write(n)
	}
}

// mainPorts are the main processor's, at their numbers.
func (b *Board) mainPorts() [portCount]port {
	m := &b.Machine
	return [portCount]port{
		0:  {read: b.padReader(0), write: b.writePads},
		1:  {read: b.padReader(1)},
		2:  {write: highOf(&m.T.Reload)},
		3:  {write: lowOf(&m.T.Reload)},
		4:  {read: b.readTimer, write: b.writeTimer},
		6:  {read: func() byte { return byte(m.B.Line) }},
		7:  {read: func() byte { return byte(m.B.At) }},
		8:  {read: b.readBeam, write: b.writeBeam},
		10: {write: highOf(&m.From)},
		11: {write: lowOf(&m.From)},
		12: {write: highOf(&m.To)},
		13: {write: lowOf(&m.To)},
		14: {write: b.transfer},
		16: {read: b.readAux, write: b.writeAux},
		17: {read: func() byte { return m.Mail[1] }, write: b.sendMail},
	}
}

// auxPorts are the other processor's, at their numbers.
func (b *Board) auxPorts() [portCount]port {
	l := [portCount]port{
		24: {read: b.takeMail, write: func(n byte) { b.Machine.Mail[1] = n }},
	}
	for at := range soundPorts {
		l[at].write = b.soundWriter(at)
	}
	return l
}

// highOf makes what writes a word's high byte.
func highOf(w *uint16) func(n byte) {
	return func(n byte) {
		_, low := word.Bytes(*w)
		*w = word.Of(n, low)
	}
}

// lowOf makes what writes a word's low byte.
func lowOf(w *uint16) func(n byte) {
	return func(n byte) {
		high, _ := word.Bytes(*w)
		*w = word.Of(high, n)
	}
}

// padReader makes what reads a pad's next button.
func (b *Board) padReader(who int) func() byte {
	return func() byte {
		bit, then := pad.Read(b.Machine.Pads[who])
		b.Machine.Pads[who] = then
		return bit
	}
}

func (b *Board) writePads(n byte) {
	for who, p := range b.Machine.Pads {
		b.Machine.Pads[who] = pad.Write(p, n)
	}
}

func (b *Board) readTimer() byte {
	return bits(b.Machine.T.On, bitOn) | bits(b.Machine.T.Rings, bitRings)
}

func (b *Board) writeTimer(n byte) {
	b.Machine.T = timer.Set(b.Machine.T, n&bitOn != 0)
	if n&bitRings != 0 {
		b.Machine.T.Rings = false
	}
}

func (b *Board) readBeam() byte { return bits(b.Machine.B.Rings, 1) }

// writeBeam: whatever is written, it is heard.
func (b *Board) writeBeam(byte) { b.Machine.B.Rings = false }

// transfer moves n bytes one by one: so of bytes that it wrote itself, it may read some again.
func (b *Board) transfer(n byte) {
	for i := range uint16(n) {
		*cell(b.Machine.Video, b.Machine.To+i) = b.main.look(b.Machine.From + i)
	}
	b.Taken += transferTime * int(n)
}

func (b *Board) readAux() byte {
	return bits(b.Machine.Granted, bitGranted) | bits(b.Machine.Held, bitHeld)
}

// writeAux: only who was Held begins; who runs already goes on.
func (b *Board) writeAux(n byte) {
	m := &b.Machine
	was := m.Held
	m.Granted, m.Held = n&bitGranted != 0, n&bitHeld != 0
	if was && !m.Held {
		m.Aux, m.AuxReady = cpu.Begin(b.Aux()), m.Clock
	}
}

// sendMail writes to the other processor.
func (b *Board) sendMail(n byte) {
	b.Machine.Mail[0], b.Machine.Rung = n, true
}

// takeMail reads what the main processor sent: the other one needn't be told of it any more.
func (b *Board) takeMail() byte {
	b.Machine.Rung = false
	return b.Machine.Mail[0]
}

// soundWriter makes what writes to a port of the sound. Each byte is kept, those that change nothing too: who runs the machine shows them.
func (b *Board) soundWriter(at int) func(n byte) {
	return func(n byte) {
		// No error: each of these ports is one of the sound's.
		b.Machine.S, _ = tone.Put(b.Machine.S, at, n)
		b.Writes = append(b.Writes, api.Write{Clock: b.Machine.Clock, At: at, Value: n})
	}
}

// bits tells those of a sign that is so; else none.
func bits(is bool, those byte) byte {
	if is {
		return those
	}
	return 0
}
