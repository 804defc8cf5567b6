package asm

import (
	"strings"

	"marquee/api"
	"marquee/order"
	"marquee/word"
)

// plainWord is what a line begins with that tells a word, not an order.
const plainWord = ".word"

// between two parts of a line.
const between = ", "

// reader goes through a text line by line.
type reader struct {
	ops    map[string]int // of the orders, by what they are called
	places map[string]int // in the program, by their Names
	uses   []use
	rom    []byte
	line   int
}

// use is where in the program a Name's place must stand, and the line that asks for it.
type use struct {
	name     string
	at, line int
}

// fault is what a reader gives up with.
type fault struct {
	line int
	e    api.Errno
}

// giveUp ends the reading, however deep in a line it is.
func (r *reader) giveUp(e api.Errno) { panic(fault{r.line, e}) }

// readText tells the program of a text, or the line at which its reader gave up, and why.
func readText(s string) (rom []byte, at int, e api.Errno) {
	defer func() {
		cause := recover()
		if cause == nil {
			return
		}
		f, own := cause.(fault)
		if !own {
			// Nothing of the text's, but a mistake of this program: it must not pass for a fault.
			panic(cause)
		}
		rom, at, e = nil, f.line, f.e
	}()
	r := reader{ops: opsByName(), places: map[string]int{}}
	r.readLines(s)
	r.layPlaces()
	return r.rom, 0, api.OK
}

func (r *reader) readLines(s string) {
	for s != "" {
		line, rest, ended := strings.Cut(s, "\n")
		if !ended {
			r.giveUp(api.ErrText)
		}
		r.readLine(line)
		s = rest
		r.line++
	}
}

func (r *reader) readLine(line string) {
	if name, ok := strings.CutSuffix(line, ":"); ok {
		r.readPlace(name)
		return
	}
	first, rest, _ := strings.Cut(line, " ")
	var parts []string
	if rest != "" {
		parts = strings.Split(rest, between)
	}
	if first == plainWord {
		r.readWord(parts)
		return
	}
	r.readOrder(first, parts)
}

func (r *reader) readPlace(name string) {
	if !Name(name) {
		r.giveUp(api.ErrText)
	}
	if _, ok := r.places[name]; ok {
		r.giveUp(api.ErrTwice)
	}
	r.places[name] = len(r.rom)
}

func (r *reader) readWord(parts []string) {
	if len(parts) != 1 {
		r.giveUp(api.ErrForm)
	}
	value, name := r.wordOrName(parts[0])
	if value < 0 || value > 0xffff {
		r.giveUp(api.ErrRange)
	}
	r.put([]uint16{uint16(value)}, name)
}

func (r *reader) readOrder(called string, parts []string) {
	op, ok := r.ops[called]
	if !ok {
		r.giveUp(api.ErrWho)
	}
	kinds := partsOf(op)
	if len(parts) != len(kinds) {
		r.giveUp(api.ErrForm)
	}
	o, name := api.Order{Op: op}, ""
	for i, kind := range kinds {
		field := kind.of(&o)
		switch kind {
		case partW:
			*field, name = r.wordOrName(parts[i])
		case partN:
			*field = r.known(number(parts[i]))
		default:
			*field = r.known(register(parts[i]))
		}
	}
	words, e := order.Words(o)
	if e != api.OK {
		r.giveUp(e)
	}
	r.put(words, name)
}

// known lets a value through that a part is written as.
func (r *reader) known(value int, ok bool) int {
	if !ok {
		r.giveUp(api.ErrText)
	}
	return value
}

// wordOrName tells the number that a part is, or the Name; this counts 0, since its place may not be known yet.
func (r *reader) wordOrName(part string) (int, string) {
	if Name(part) {
		return 0, part
	}
	return r.known(number(part)), ""
}

// put lays words behind the program; a Name, if there is one, stands for the last of them.
func (r *reader) put(words []uint16, name string) {
	if len(r.rom)+2*len(words) > api.MaxRom {
		r.giveUp(api.ErrMany)
	}
	for _, w := range words {
		high, low := word.Bytes(w)
		r.rom = append(r.rom, high, low)
	}
	if name != "" {
		r.uses = append(r.uses, use{name, len(r.rom) - 2, r.line})
	}
}

// layPlaces lays the places of Names to where they are used: only behind all lines is each of them known.
func (r *reader) layPlaces() {
	for _, u := range r.uses {
		place, ok := r.places[u.name]
		if !ok {
			r.line = u.line
			r.giveUp(api.ErrWho)
		}
		r.rom[u.at], r.rom[u.at+1] = word.Bytes(uint16(place))
	}
}
