package tape

import (
	"marquee/api"
	"marquee/bus"
	"marquee/lock"
)

// frameTime is how many clocks a frame takes.
const frameTime = api.AllLines * api.LineTime

// Play tells a machine with these programs so many frames after it began, and what it showed.
func Play(mainRom, auxRom []byte, inputs []api.Input, frames int) (api.Machine, api.Shown, api.Errno) {
	m, e := bus.New(mainRom, auxRom)
	if e != api.OK {
		return api.Machine{}, api.Shown{}, e
	}
	if frames < 0 || frames > api.MaxFrames {
		return api.Machine{}, api.Shown{}, api.ErrRange
	}
	return lock.Run(m, inputs, frames*frameTime)
}

// Frame tells the lines of one frame, from the highest one on: of those that were shown twice, the first that has all above it ahead.
func Frame(s api.Shown, frame int) ([][api.Width]byte, api.Errno) {
	var lines [][api.Width]byte
	for _, l := range s.Lines {
		if l.Frame == frame && l.Line == len(lines) {
			lines = append(lines, l.Pixels)
		}
	}
	if len(lines) != api.Lines {
		return nil, api.ErrWho
	}
	return lines, api.OK
}
