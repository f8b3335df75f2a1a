package journal

import "jackfield/drum"

const (
	headBlocks = 2
	greatest   = 1<<32 - 1 // of the numbers that a block holds
)

// head is what a journal goes by, and the block where it stands.
type head struct {
	place                           int
	serial, generation, epoch, area int
}

// noHead stands for the head of a drum that has none: those after it are the first ones.
func noHead() head { return head{place: 1, area: 1} }

// next is the head after this one, in the other block.
func (h head) next() head {
	h.place = 1 - h.place
	h.serial++
	return h
}

// moved is the next head, for records of a new generation in the other area.
func (h head) moved() head {
	h = h.next()
	h.generation++
	h.area = 1 - h.area
	return h
}

func (h head) tooGreat() bool { return max(h.serial, h.generation, h.epoch) > greatest }

func (h head) content() content {
	return content{kind: heading, number: h.serial, pair: [2]int{h.generation, h.epoch}, bytes: []byte{byte(h.area)}}
}

func headIn(d *drum.Drum, place int) (head, bool) {
	c, ok := contentOn(d, place)
	if !ok || c.kind != heading || len(c.bytes) != 1 || c.bytes[0] > 1 {
		return head{}, false
	}
	return head{place: place, serial: c.number, generation: c.pair[0], epoch: c.pair[1], area: int(c.bytes[0])}, true
}

func currentHead(d *drum.Drum) (head, bool) {
	first, ok := headIn(d, 0)
	second, other := headIn(d, 1)
	if other && (!ok || second.serial > first.serial) {
		return second, true
	}
	return first, ok
}

// blockAt is which block of a drum has an index of the head's area.
func (h head) blockAt(d *drum.Drum, index int) int {
	return headBlocks + h.area*areaSize(d) + index
}

// pieceAt is the piece of the head's generation at an index of its area.
func (h head) pieceAt(d *drum.Drum, index int) (piece, bool) {
	if index >= areaSize(d) {
		return piece{}, false
	}
	c, ok := contentOn(d, h.blockAt(d, index))
	if !ok || c.number != h.generation || c.pair[1] != index {
		return piece{}, false
	}
	return piece{kind: c.kind, generation: c.number, epoch: c.pair[0], index: index, bytes: c.bytes}, true
}

// recordAt is the record at an index of the head's area, and its epoch.
func (h head) recordAt(d *drum.Drum, at int) ([]byte, int, bool) {
	first, ok := h.pieceAt(d, at)
	if !ok || first.kind != beginning || first.epoch > h.epoch || len(first.bytes) < lengthSize {
		return nil, 0, false
	}
	size := int(first.bytes[0])<<8 | int(first.bytes[1])
	if size > MaxRecord {
		return nil, 0, false
	}
	whole := first.bytes
	for i := 1; i < blocksFor(size); i++ {
		p, ok := h.pieceAt(d, at+i)
		// Only full pieces stand ahead of another one.
		if !ok || p.kind != continuation || p.epoch != first.epoch || len(whole) != i*pieceSize {
			return nil, 0, false
		}
		whole = append(whole, p.bytes...)
	}
	if len(whole) != lengthSize+size {
		return nil, 0, false
	}
	return whole[lengthSize:], first.epoch, true
}

// recordsOn is the records of the head's area, the snapshot first.
func (h head) recordsOn(d *drum.Drum) [][]byte {
	var found [][]byte
	at, least := 0, 0
	for {
		record, epoch, ok := h.recordAt(d, at)
		if !ok || epoch < least {
			return found
		}
		found = append(found, record)
		at += blocksFor(len(record))
		least = epoch
	}
}
