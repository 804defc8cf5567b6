package picture

const (
	sprites       = 128 // where in the picture's memory they begin
	manySprites   = 8
	spriteSize    = 4 // bytes
	mostDrawn     = 2 // on a line
	columnsTurned = 0x01
	rowsTurned    = 0x02
	behindGround  = 0x80
)

// sprite is what its bytes tell.
type sprite struct {
	line, column int // its first ones; not bytes, that they don't go round
	tile         byte
	columns      bool // are they turned around?
	rows         bool
	behind       bool
}

func spriteOf(video []byte, k int) sprite {
	at := sprites + spriteSize*k
	how := video[at+3]
	return sprite{
		line:    int(video[at]),
		column:  int(video[at+1]),
		tile:    video[at+2],
		columns: how&columnsTurned != 0,
		rows:    how&rowsTurned != 0,
		behind:  how&behindGround != 0,
	}
}

func (s sprite) liesOn(y int) bool {
	return s.line <= y && y < s.line+side
}

// dots tells a sprite's dots on a line that it lies on.
func (s sprite) dots(video []byte, y int) row {
	down := y - s.line
	if s.rows {
		down = side - 1 - down
	}
	r := rowOf(video, s.tile, down)
	if s.columns {
		return r.turned()
	}
	return r
}

// drawn tells the sprites that are drawn on a line, and whether more lie there. Where a sprite's columns are, or whether it has a dot there, isn't asked.
func drawn(video []byte, y int) (list []int, more bool) {
	for k := range manySprites {
		if !spriteOf(video, k).liesOn(y) {
			continue
		}
		if len(list) == mostDrawn {
			return list, true
		}
		list = append(list, k)
	}
	return list, false
}
