package picture

import "marquee/api"

const (
	side      = 4  // rows of a tile, dots of a row
	inRow     = 4  // tiles of the ground, side by side
	round     = 16 // dots of the ground, behind which it begins again
	tiles     = 16 // where in the picture's memory they begin
	whichTile = 15 // the bits of a byte that tell a tile
	movedX    = 168
	movedY    = 169
)

// row is a row of a tile, dot by dot.
type row [side]byte

// rowOf tells the row y of the tile that a byte tells.
func rowOf(video []byte, tile byte, y int) row {
	b := video[tiles+side*int(tile&whichTile)+y]
	return row{b >> 6, b >> 4 & 3, b >> 2 & 3, b & 3}
}

func (r row) turned() row {
	return row{r[3], r[2], r[1], r[0]}
}

// groundDots tells the dots of the ground that are seen on a line.
func groundDots(video []byte, y int) [api.Width]byte {
	var ground [round]byte
	down := (y + int(video[movedY])) % round
	for i := range inRow {
		r := rowOf(video, video[down/side*inRow+i], down%side)
		copy(ground[i*side:], r[:])
	}
	var seen [api.Width]byte
	for x := range seen {
		seen[x] = ground[(x+int(video[movedX]))%round]
	}
	return seen
}
