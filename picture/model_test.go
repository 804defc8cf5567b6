package picture

import "marquee/api"

// pixel is what the chapter asks of a pixel, by plain numbers.
func pixel(m []byte, x, y int) byte {
	gx, gy := (x+int(m[168]))%16, (y+int(m[169]))%16
	d := dot(m, m[gy/4*4+gx/4], gx%4, gy%4)
	lie := 0
	for k := range 8 {
		line, column, tile, how := int(m[128+4*k]), int(m[129+4*k]), m[130+4*k], m[131+4*k]
		if y < line || y > line+3 {
			continue
		}
		if lie++; lie > 2 {
			break
		}
		if x < column || x > column+3 {
			continue
		}
		sx, sy := x-column, y-line
		if how%2 == 1 {
			sx = 3 - sx
		}
		if how/2%2 == 1 {
			sy = 3 - sy
		}
		c := dot(m, tile, sx, sy)
		if c == 0 {
			continue
		}
		if how >= 128 && d != 0 {
			break
		}
		return m[164+c]
	}
	return m[160+d]
}

// dot is that at a column and a row of a tile.
func dot(m []byte, tile byte, column, row int) int {
	b := int(m[16+int(tile)%16*4+row])
	for range 3 - column {
		b /= 4
	}
	return b % 4
}

// lie are the sprites that lie on a line, all of them.
func lie(m []byte, y int) []int {
	var l []int
	for k := range 8 {
		for i := range 4 {
			if int(m[128+4*k])+i == y {
				l = append(l, k)
			}
		}
	}
	return l
}

// noise goes on from byte to byte, always the same way.
type noise uint32

func (n *noise) next() byte {
	*n = *n*1664525 + 1013904223
	return byte(*n >> 24)
}

// someMemory is full of bytes of all kinds; the sprites lie about the lines, at some of its edges.
func someMemory(n int) []byte {
	from := noise(n)
	m := make([]byte, api.VideoSize)
	for i := range m {
		m[i] = from.next()
	}
	for k := range 8 {
		switch from.next() >> 5 {
		case 0: // anywhere
		case 1:
			m[128+4*k] = from.next() >> 4
			m[129+4*k] = 250 + m[129+4*k]%6
		default:
			m[128+4*k] = from.next() >> 4
			m[129+4*k] = m[129+4*k] % 18
		}
	}
	return m
}

// bare is a memory whose sprites all lie below the picture, and whose colours are 10 to 17.
func bare() []byte {
	m := make([]byte, api.VideoSize)
	for k := range 8 {
		m[128+4*k] = 200
		m[160+k] = byte(10 + k)
	}
	return m
}
