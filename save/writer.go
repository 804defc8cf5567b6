package save

import (
	"marquee/api"
	"marquee/word"
)

// writer lays parts of a machine down as bytes; it only reads them.
type writer struct {
	out []byte
}

// written tells the bytes of a right machine: of others, numbers and lists may be greater than what is written of them.
func written(m api.Machine) []byte {
	var w writer
	carry(&w, &m)
	return w.out
}

func (w *writer) bytes(l ...*byte) {
	for _, b := range l {
		w.out = append(w.out, *b)
	}
}

func (w *writer) bools(l ...*bool) {
	for _, is := range l {
		b := byte(0)
		if *is {
			b = 1
		}
		w.bytes(&b)
	}
}

func (w *writer) words(l ...*uint16) {
	for _, n := range l {
		high, low := word.Bytes(*n)
		w.bytes(&high, &low)
	}
}

// numbers: two words each are enough, as none of a right machine's is below 0 or far above api.MaxTime.
func (w *writer) numbers(l ...*int) {
	for _, n := range l {
		high, low := uint16(*n>>16), uint16(*n)
		w.words(&high, &low)
	}
}

// lists: how long one is stands ahead of it.
func (w *writer) lists(l ...*[]byte) {
	for _, list := range l {
		size := uint16(len(*list))
		w.words(&size)
		w.out = append(w.out, *list...)
	}
}
