package order

import "marquee/api"

// parts of an order beside its Op: D, S, N, W.
const parts = 4

// What an order has; hasCount: an N that tells how far a word is shifted, and so is never below 0.
const (
	hasD = 1 << iota
	hasS
	hasN
	hasW
	hasCount
)

// shape is what all orders of an Op have in common.
type shape struct {
	name   string
	cycles int
	has    int
}

// shapes stand at their Ops; one without a name is no order's.
var shapes = [32]shape{
	api.Nop:  {"nop", 1, 0},
	api.Mov:  {"mov", 1, hasD | hasS},
	api.Ldi:  {"ldi", 2, hasD | hasW},
	api.Ld:   {"ld", 3, hasD | hasS | hasN},
	api.St:   {"st", 3, hasD | hasS | hasN},
	api.Ldb:  {"ldb", 2, hasD | hasS | hasN},
	api.Stb:  {"stb", 2, hasD | hasS | hasN},
	api.Add:  {"add", 1, hasD | hasS},
	api.Sub:  {"sub", 1, hasD | hasS},
	api.And:  {"and", 1, hasD | hasS},
	api.Or:   {"or", 1, hasD | hasS},
	api.Xor:  {"xor", 1, hasD | hasS},
	api.Shl:  {"shl", 1, hasD | hasCount},
	api.Shr:  {"shr", 1, hasD | hasCount},
	api.Cmp:  {"cmp", 1, hasD | hasS},
	api.Addi: {"addi", 1, hasD | hasN},
	api.Jmp:  {"jmp", 2, hasW},
	api.Jz:   {"jz", 2, hasW},
	api.Jn:   {"jn", 2, hasW},
	api.Jc:   {"jc", 2, hasW},
	api.Call: {"call", 4, hasW},
	api.Ret:  {"ret", 4, 0},
	api.Push: {"push", 3, hasS},
	api.Pop:  {"pop", 3, hasD},
	api.Ei:   {"ei", 1, 0},
	api.Di:   {"di", 1, 0},
	api.Rti:  {"rti", 5, 0},
	api.Hlt:  {"hlt", 1, 0},
	api.Mul:  {"mul", 6, hasD | hasS},
	api.Jnz:  {"jnz", 2, hasW},
	api.Trap: {"trap", 5, 0},
}

// shapeOf tells the shape of the orders of this Op.
func shapeOf(op int) (shape, api.Errno) {
	if op < 0 || op >= len(shapes) || shapes[op].name == "" {
		return shape{}, api.ErrWho
	}
	return shapes[op], api.OK
}

// words tells how many words an order of this shape is.
func (s shape) words() int {
	if s.has&hasW != 0 {
		return 2
	}
	return 1
}

// limit tells whether a part of an order may have this value.
type limit func(value int) bool

// within makes a limit of the lowest value and the highest one.
func within(low, high int) limit {
	return func(value int) bool { return low <= value && value <= high }
}

// limits of D, S, N, W of an order of this shape.
func (s shape) limits() [parts]limit {
	none := within(0, 0)
	l := [parts]limit{none, none, none, none}
	if s.has&hasD != 0 {
		l[0] = within(0, register)
	}
	if s.has&hasS != 0 {
		l[1] = within(0, register)
	}
	if s.has&hasN != 0 {
		l[2] = within(lowestN, highestN)
	}
	if s.has&hasCount != 0 {
		l[2] = within(0, count)
	}
	if s.has&hasW != 0 {
		l[3] = within(0, highestW)
	}
	return l
}
