package watch

import (
	"strings"

	"marquee/api"
	"marquee/asm"
)

// longestOrder is how many bytes an order takes at most, wordSize how many its first word does.
const (
	longestOrder = 4
	wordSize     = 2
)

// unknown is the text of an order that isn't in the program.
const unknown = "?"

// due tells the orders that processors do at the machine's clock. What the main one's order makes of the other one in this clock isn't seen yet.
func due(m api.Machine) []api.Did {
	var l []api.Did
	if m.MainReady <= m.Clock && doesOrder(m.Main, m.T.Rings || m.B.Rings) {
		l = append(l, api.Did{Clock: m.Clock, PC: m.Main.PC, Text: text(m.MainRom, m.Main.PC)})
	}
	if !m.Held && m.AuxReady <= m.Clock && doesOrder(m.Aux, m.Rung) {
		l = append(l, api.Did{Clock: m.Clock, Aux: true, PC: m.Aux.PC, Text: text(m.AuxRom, m.Aux.PC)})
	}
	return l
}

// doesOrder tells whether a processor's step is an order: it may be waiting, or being interrupted, too.
func doesOrder(c api.Cpu, rung bool) bool {
	return !c.Waits && !(c.May && rung)
}

// text tells the order at a place of a program.
func text(rom []byte, pc uint16) string {
	rest := rom[min(int(pc), len(rom)):]
	if len(rest) < wordSize {
		return unknown
	}
	// No error: these are few, and whole words.
	lines, _ := asm.List(rest[:min(len(rest)/wordSize*wordSize, longestOrder)])
	first, _, _ := strings.Cut(lines, "\n")
	return first
}
