package bus

import (
	"bytes"

	"marquee/api"
	"marquee/cpu"
)

// Where things lie, for either processor: its program first, then a memory, over and over, another one likewise, and ports; behind these nothing.
const (
	nearFrom  = 0x8000
	farFrom   = 0xc000
	portsFrom = 0xd000
	portsTo   = 0xdfff
)

// nothing is what a place reads as where nothing is.
const nothing = 0xff

// Board is a machine that its processors come to: what they read and write is done to the Machine there, which is its own. It isn't to be copied: its ports are those of the Machine that it was opened with.
type Board struct {
	Machine   api.Machine
	Taken     int         // clocks that transfers took
	Writes    []api.Write // of the other processor to the sound
	main, aux side
}

// side is what one of the processors comes to.
type side struct {
	rom    *[]byte
	memory func(at uint16) *byte // nil: there is none
	ports  [portCount]port
}

// Open tells a board with a machine like m, which shares no memory with m; Check's error.
func Open(m api.Machine) (*Board, api.Errno) {
	if e := Check(m); e != api.OK {
		return nil, e
	}
	b := &Board{Machine: copyOf(m)}
	b.main = side{rom: &b.Machine.MainRom, memory: b.mainMemory, ports: b.mainPorts()}
	b.aux = side{rom: &b.Machine.AuxRom, memory: b.auxMemory, ports: b.auxPorts()}
	return b, api.OK
}

func copyOf(m api.Machine) api.Machine {
	for _, l := range []*[]byte{&m.MainRom, &m.AuxRom, &m.Ram, &m.Own, &m.Video} {
		*l = bytes.Clone(*l)
	}
	return m
}

// Main tells how the main processor comes to bytes.
func (b *Board) Main() cpu.Reach {
	return cpu.Reach{Read: b.main.read, Write: b.main.write}
}

// Aux tells how the other processor comes to bytes.
func (b *Board) Aux() cpu.Reach {
	return cpu.Reach{Read: b.aux.read, Write: b.aux.write}
}

func (b *Board) reach(aux bool) cpu.Reach {
	if aux {
		return b.Aux()
	}
	return b.Main()
}

// mainMemory tells the byte of a memory at a place of the main processor.
func (b *Board) mainMemory(at uint16) *byte {
	switch {
	case nearFrom <= at && at < farFrom:
		return cell(b.Machine.Ram, at-nearFrom)
	case farFrom <= at && at < portsFrom:
		return cell(b.Machine.Video, at-farFrom)
	}
	return nil
}

// auxMemory tells the byte of a memory at a place of the other processor: of the main memory none, while it isn't Granted.
func (b *Board) auxMemory(at uint16) *byte {
	switch {
	case nearFrom <= at && at < farFrom:
		return cell(b.Machine.Own, at-nearFrom)
	case farFrom <= at && at < portsFrom && b.Machine.Granted:
		return cell(b.Machine.Ram, at-farFrom)
	}
	return nil
}

// cell tells the byte of a list that lies over and over.
func cell(l []byte, at uint16) *byte {
	return &l[int(at)%len(l)]
}

func isPort(at uint16) bool {
	return portsFrom <= at && at <= portsTo
}

func (s *side) read(at uint16) byte {
	if isPort(at) {
		return s.ports[at%portCount].get()
	}
	return s.look(at)
}

// look reads at a place without coming to ports: there nothing is.
func (s *side) look(at uint16) byte {
	if at < nearFrom && int(at) < len(*s.rom) {
		return (*s.rom)[at]
	}
	if c := s.memory(at); c != nil {
		return *c
	}
	return nothing
}

func (s *side) write(at uint16, n byte) {
	if isPort(at) {
		s.ports[at%portCount].put(n)
	} else if c := s.memory(at); c != nil {
		*c = n
	}
}
