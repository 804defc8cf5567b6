package save

import (
	"bytes"

	"marquee/api"
	"marquee/word"
)

// reader fills parts of a machine from bytes.
type reader struct {
	rest []byte
}

// torn is what a reader gives up with.
type torn struct{}

// giveUp ends the reading, whatever part of the machine it is at.
func (r *reader) giveUp() { panic(torn{}) }

// read tells the machine of which these are the bytes, and whether its reader came through all of them without giving up. The machine may still be one that isn't right.
func read(b []byte) (m api.Machine, whole bool) {
	defer func() {
		cause := recover()
		if cause == nil {
			return
		}
		if _, own := cause.(torn); !own {
			// Nothing of the bytes', but a mistake of this program: it must not pass for them being torn.
			panic(cause)
		}
		m, whole = api.Machine{}, false
	}()
	r := reader{rest: b}
	carry(&r, &m)
	r.end()
	return m, true
}

// take tells the next n bytes.
func (r *reader) take(n int) []byte {
	if n > len(r.rest) {
		r.giveUp()
	}
	l := r.rest[:n]
	r.rest = r.rest[n:]
	return l
}

func (r *reader) end() {
	if len(r.rest) > 0 {
		r.giveUp()
	}
}

func (r *reader) bytes(l ...*byte) {
	for _, b := range l {
		*b = r.take(1)[0]
	}
}

func (r *reader) bools(l ...*bool) {
	for _, is := range l {
		b := r.take(1)[0]
		if b > 1 {
			r.giveUp()
		}
		*is = b == 1
	}
}

func (r *reader) words(l ...*uint16) {
	for _, n := range l {
		var high, low byte
		r.bytes(&high, &low)
		*n = word.Of(high, low)
	}
}

func (r *reader) numbers(l ...*int) {
	for _, n := range l {
		var high, low uint16
		r.words(&high, &low)
		*n = int(high)<<16 | int(low)
	}
}

func (r *reader) lists(l ...*[]byte) {
	for _, list := range l {
		var size uint16
		r.words(&size)
		// A copy, as what is handed in isn't kept.
		*list = bytes.Clone(r.take(int(size)))
	}
}
