package journal

import (
	"jackfield/api"
	"jackfield/drum"
	"jackfield/fields"
	"jackfield/hash"
)

// Kinds of blocks.
const (
	_ = iota
	beginning
	continuation
	heading
)

const (
	layout     = "bwwwt" // a t is a count of one byte, and as many bytes
	countAt    = 13
	bytesAt    = countAt + 1
	coveredEnd = 60 // what the check covers ends here
	pieceSize  = coveredEnd - bytesAt
)

// content is what a valid block says, whatever its kind is.
type content struct {
	kind   int
	number int
	pair   [2]int
	bytes  []byte
}

// piece is a block of a record.
type piece struct {
	kind, generation, epoch, index int
	bytes                          []byte
}

func (p piece) content() content {
	return content{kind: p.kind, number: p.generation, pair: [2]int{p.epoch, p.index}, bytes: p.bytes}
}

func (c content) packed() (api.Block, error) {
	covered, err := fields.Encode(layout, fields.Cell{N: c.kind}, fields.Cell{N: c.number},
		fields.Cell{N: c.pair[0]}, fields.Cell{N: c.pair[1]}, fields.Cell{S: string(c.bytes)})
	if err != nil {
		return api.Block{}, err
	}
	var b api.Block
	copy(b[:coveredEnd], covered)
	check := hash.Check(b[:coveredEnd])
	copy(b[coveredEnd:], check[:])
	return b, nil
}

// unpacked is what a block says; false if it isn't valid.
func unpacked(b api.Block) (content, bool) {
	end := bytesAt + int(b[countAt])
	if end > coveredEnd {
		return content{}, false
	}
	cells, err := fields.Decode(layout, b[:end])
	if err != nil {
		return content{}, false
	}
	c := content{kind: cells[0].N, number: cells[1].N, pair: [2]int{cells[2].N, cells[3].N}, bytes: []byte(cells[4].S)}
	// A content has one form alone, so packing it again asks both the padding and the check.
	again, err := c.packed()
	if err != nil || again != b {
		return content{}, false
	}
	return c, true
}

func contentOn(d *drum.Drum, place int) (content, bool) {
	b, err := d.Read(place)
	if err != nil {
		return content{}, false
	}
	return unpacked(b)
}
