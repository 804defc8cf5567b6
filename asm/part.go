package asm

import (
	"strconv"

	"marquee/api"
	"marquee/order"
)

// part is one of what an order has beside its Op.
type part int

// Parts, in the order in which a line tells them.
const (
	partD part = iota
	partS
	partW
	partN
)

// of tells where an order keeps this part.
func (p part) of(o *api.Order) *int {
	switch p {
	case partD:
		return &o.D
	case partS:
		return &o.S
	case partW:
		return &o.W
	}
	return &o.N
}

// partsOf tells which parts the orders of this Op have.
func partsOf(op int) []part {
	var has []part
	for p := partD; p <= partN; p++ {
		o := api.Order{Op: op}
		*p.of(&o) = 1
		// What an order hasn't must be 0: 1 tells the one from the other.
		if order.Check(o) == api.OK {
			has = append(has, p)
		}
	}
	return has
}

// opsByName tells the Ops of all orders by what these are called.
func opsByName() map[string]int {
	ops := map[string]int{}
	for op := api.Nop; op <= api.Trap; op++ {
		if name, e := order.Name(op); e == api.OK {
			ops[name] = op
		}
	}
	return ops
}

func isDigit(c byte) bool { return '0' <= c && c <= '9' }

// register tells which one a part is, r0 to r7.
func register(s string) (int, bool) {
	if len(s) != 2 || s[0] != 'r' || s[1] < '0' || s[1] > '7' {
		return 0, false
	}
	return int(s[1] - '0'), true
}

// number tells which one a part is; one may be written in one way alone.
func number(s string) (int, bool) {
	n, err := strconv.Atoi(s)
	if err != nil || strconv.Itoa(n) != s {
		return 0, false
	}
	return n, true
}
