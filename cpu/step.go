package cpu

import (
	"marquee/api"
	"marquee/order"
	"marquee/word"
)

// Places of the words that tell a processor where it goes.
const (
	beginPlace = 0
	ringPlace  = 2
	trapPlace  = 4
)

// Cycles of steps that do no order, and what a jump that goes takes beyond its own.
const (
	ringCycles = 6
	waitCycles = 1
	goCycles   = 1
)

// stack is the register that tells where the stack is.
const stack = 7

// wordSize is how many places a word takes.
const wordSize = 2

// Begin tells a processor that begins, by what it reads.
func Begin(r Reach) api.Cpu { return api.Cpu{PC: r.wordAt(beginPlace)} }

// Do tells a processor behind one step, by what it comes to, and the cycles of this.
func Do(c api.Cpu, r Reach, rings bool) (api.Cpu, int) {
	p := processor{Cpu: c, reach: r}
	p.step(rings)
	return p.Cpu, p.cycles
}

// processor is one in the midst of a step.
type processor struct {
	api.Cpu
	reach  Reach
	cycles int
}

func (p *processor) step(rings bool) {
	switch {
	case rings && p.May:
		p.leave(ringPlace)
		p.cycles = ringCycles
	case p.Waits:
		p.cycles = waitCycles
	default:
		o := p.fetch()
		p.cycles, _, _ = order.Cycles(o.Op)
		do := acts()[o.Op]
		do(p, o)
	}
}

// fetch reads the order at PC, which is behind it then.
func (p *processor) fetch() api.Order {
	first := p.next()
	o, words := order.Read(first, 0)
	if words > 1 {
		// Not read ahead of knowing that it is there: reading may change what is read.
		o, _ = order.Read(first, p.next())
	}
	return o
}

// next reads the word at PC, which is behind it then.
func (p *processor) next() uint16 {
	n := p.reach.wordAt(p.PC)
	p.PC += wordSize
	return n
}

func (p *processor) push(n uint16) {
	p.R[stack] -= wordSize
	p.reach.putWord(p.R[stack], n)
}

func (p *processor) pop() uint16 {
	n := p.reach.wordAt(p.R[stack])
	p.R[stack] += wordSize
	return n
}

func (p *processor) leave(place uint16) {
	p.push(p.PC)
	p.push(Sign(p.Cpu))
	p.May, p.Waits = false, false
	p.PC = p.reach.wordAt(place)
}

// comeBack undoes a leave, but for its waiting.
func (p *processor) comeBack() {
	sign := p.pop()
	p.PC = p.pop()
	p.Z, p.N = sign&signZ != 0, sign&signN != 0
	p.C, p.V = sign&signC != 0, sign&signV != 0
	p.May = sign&signMay != 0
}

// reckon tells what the order's Op makes of D and another word, and sets the signs by it.
func (p *processor) reckon(o api.Order, other uint16) uint16 {
	n, z, neg, carry, over, _ := word.Flags(o.Op, p.R[o.D], other)
	p.Z, p.N, p.C, p.V = z, neg, carry, over
	return n
}
