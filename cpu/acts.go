package cpu

import (
	"marquee/api"
	"marquee/word"
)

// act does an order, PC being behind it already.
type act func(p *processor, o api.Order)

// acts stand at their Ops. The Op that is no order's has none: chapter 2 reads it as a trap.
func acts() [api.Trap + 1]act {
	return [api.Trap + 1]act{
		api.Nop:  func(*processor, api.Order) {},
		api.Mov:  func(p *processor, o api.Order) { p.R[o.D] = p.R[o.S] },
		api.Ldi:  func(p *processor, o api.Order) { p.R[o.D] = uint16(o.W) },
		api.Ld:   func(p *processor, o api.Order) { p.R[o.D] = p.reach.wordAt(p.beside(o.S, o.N)) },
		api.St:   func(p *processor, o api.Order) { p.reach.putWord(p.beside(o.D, o.N), p.R[o.S]) },
		api.Ldb:  func(p *processor, o api.Order) { p.R[o.D] = uint16(p.reach.byteAt(p.beside(o.S, o.N))) },
		api.Stb:  func(p *processor, o api.Order) { p.reach.putByte(p.beside(o.D, o.N), byte(p.R[o.S])) },
		api.Add:  reckonBoth,
		api.Sub:  reckonBoth,
		api.And:  reckonBoth,
		api.Or:   reckonBoth,
		api.Xor:  reckonBoth,
		api.Shl:  shift(word.Shl),
		api.Shr:  shift(word.Shr),
		api.Cmp:  func(p *processor, o api.Order) { p.reckon(o, p.R[o.S]) },
		api.Addi: func(p *processor, o api.Order) { p.R[o.D] = p.reckon(o, uint16(o.N)) },
		api.Jmp:  jumpIf(func(api.Cpu) bool { return true }),
		api.Jz:   jumpIf(func(c api.Cpu) bool { return c.Z }),
		api.Jn:   jumpIf(func(c api.Cpu) bool { return c.N }),
		api.Jc:   jumpIf(func(c api.Cpu) bool { return c.C }),
		api.Call: call,
		api.Ret:  func(p *processor, _ api.Order) { p.PC = p.pop() },
		api.Push: func(p *processor, o api.Order) { p.push(p.R[o.S]) },
		api.Pop:  popInto,
		api.Ei:   func(p *processor, _ api.Order) { p.May = true },
		api.Di:   func(p *processor, _ api.Order) { p.May = false },
		api.Rti:  func(p *processor, _ api.Order) { p.comeBack() },
		api.Hlt:  func(p *processor, _ api.Order) { p.Waits = true },
		api.Mul:  reckonBoth,
		api.Jnz:  jumpIf(func(c api.Cpu) bool { return !c.Z }),
		api.Trap: func(p *processor, _ api.Order) { p.leave(trapPlace) },
	}
}

// beside tells the place that lies n from where a register points.
func (p *processor) beside(register, n int) uint16 { return p.R[register] + uint16(n) }

// reckonBoth is the act of what makes a word of D and S.
func reckonBoth(p *processor, o api.Order) { p.R[o.D] = p.reckon(o, p.R[o.S]) }

// shift makes an act of what moves a word's bits.
func shift(move func(a uint16, n int) (uint16, bool, api.Errno)) act {
	return func(p *processor, o api.Order) {
		n, out, _ := move(p.R[o.D], o.N)
		signed, _ := word.Signed(n, 16)
		p.R[o.D] = n
		p.Z, p.N, p.C, p.V = n == 0, signed < 0, out, false
	}
}

// jumpIf makes an act of what lets a jump go.
func jumpIf(goes func(c api.Cpu) bool) act {
	return func(p *processor, o api.Order) {
		if goes(p.Cpu) {
			p.PC = uint16(o.W)
			p.cycles += goCycles
		}
	}
}

func call(p *processor, o api.Order) {
	p.push(p.PC)
	p.PC = uint16(o.W)
}

// popInto lays the word into D last: so a pop into the stack's register leaves what was popped.
func popInto(p *processor, o api.Order) {
	n := p.pop()
	p.R[o.D] = n
}
