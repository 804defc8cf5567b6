package tape

import "marquee/api"

// letters of the buttons, that of the highest bit first.
const letters = "udlrabst"

// isUp stands where a button isn't down.
const isUp = '.'

// bit of the button whose letter is the i-th.
func bit(i int) byte { return 0x80 >> i }

// Buttons tells which buttons are down as a text.
func Buttons(down byte) string {
	s := []byte(letters)
	for i := range len(letters) {
		if down&bit(i) == 0 {
			s[i] = isUp
		}
	}
	return string(s)
}

// OfButtons tells the buttons of which this is the text.
func OfButtons(s string) (byte, api.Errno) {
	if len(s) != len(letters) {
		return 0, api.ErrText
	}
	down := byte(0)
	for i := range len(letters) {
		switch s[i] {
		case letters[i]:
			down |= bit(i)
		case isUp:
		default:
			return 0, api.ErrText
		}
	}
	return down, api.OK
}
