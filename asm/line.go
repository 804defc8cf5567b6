package asm

import (
	"strconv"
	"strings"

	"marquee/api"
	"marquee/order"
	"marquee/word"
)

// firstLine tells the first line of a program that isn't empty, and how many bytes it stands for.
func firstLine(rom []byte) (string, int) {
	first, second := word.Of(rom[0], rom[1]), uint16(0)
	if len(rom) > 2 {
		second = word.Of(rom[2], rom[3])
	}
	o, size := order.Read(first, second)
	// Words that tell more than their order does would be lost in its line.
	words, e := order.Words(o)
	if e != api.OK || words[0] != first || 2*size > len(rom) {
		return plainWord + " " + strconv.Itoa(int(first)) + "\n", 2
	}
	return orderLine(o), 2 * size
}

// orderLine tells an order as a line.
func orderLine(o api.Order) string {
	line, _ := order.Name(o.Op)
	var parts []string
	for _, p := range partsOf(o.Op) {
		written := strconv.Itoa(*p.of(&o))
		if p == partD || p == partS {
			written = "r" + written
		}
		parts = append(parts, written)
	}
	if len(parts) > 0 {
		line += " " + strings.Join(parts, between)
	}
	return line + "\n"
}
