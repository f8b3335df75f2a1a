// Package fields is layer 1: see shared/doc/01-fields.md.
package fields

import (
	"jackfield/api"
	"math"
)

// Cell is what a field holds.
type Cell struct {
	N int
	F float64
	S string
}

// Encode is fields' bytes.
func Encode(layout string, cells ...Cell) ([]byte, error) {
	size, err := Size(layout, cells...)
	if err != nil {
		return nil, err
	}
	out := make([]byte, 0, size)
	for i := range len(layout) {
		out = appendField(out, layout[i], cells[i])
	}
	return out, nil
}

// Decode is bytes' fields.
func Decode(layout string, b []byte) ([]Cell, error) {
	if !known(layout) {
		return nil, api.ErrState
	}
	// A field has at least one byte, so a long layout over few bytes needs no room of its own.
	cells := make([]Cell, 0, min(len(layout), len(b)))
	at := 0
	for i := range len(layout) {
		n, err := span(layout[i], b[at:])
		if err != nil {
			return nil, err
		}
		cells = append(cells, cellOf(layout[i], b[at:at+n]))
		at += n
	}
	if at < len(b) {
		return nil, api.ErrTail
	}
	return cells, nil
}

// Size is how many bytes fields have.
func Size(layout string, cells ...Cell) (int, error) {
	if !known(layout) || len(cells) != len(layout) {
		return 0, api.ErrState
	}
	total := 0
	for i := range len(layout) {
		n, err := fieldSize(layout[i], cells[i])
		if err != nil {
			return 0, err
		}
		total += n
	}
	return total, nil
}

// Some is how many whole fields bytes begin with.
func Some(layout string, b []byte) (int, bool) {
	at := 0
	for i := range len(layout) {
		if headSize(layout[i]) == 0 {
			return i, false
		}
		n, err := span(layout[i], b[at:])
		if err != nil {
			return i, false
		}
		at += n
	}
	return len(layout), at == len(b)
}

// headSize is how many bytes a letter's number has, or the length ahead of its text; 0 for a letter that stands for no field.
func headSize(letter byte) int {
	switch letter {
	case 'b', 't':
		return 1
	case 'h', 'r':
		return 2
	case 'w':
		return 4
	case 'q', 'f':
		return 8
	}
	return 0
}

func isText(letter byte) bool {
	return letter == 't' || letter == 'r'
}

func known(layout string) bool {
	for i := range len(layout) {
		if headSize(layout[i]) == 0 {
			return false
		}
	}
	return true
}

// greatest is the greatest number, or length of a text, that a head of so many bytes may hold; eight bytes hold only what a cell's N can.
func greatest(head int) uint64 {
	if head == 8 {
		return math.MaxInt64
	}
	return 1<<(8*head) - 1
}

func fieldSize(letter byte, c Cell) (int, error) {
	head := headSize(letter)
	switch {
	case letter == 'f':
		return head, nil
	case isText(letter):
		if uint64(len(c.S)) > greatest(head) {
			return 0, api.ErrLong
		}
		return head + len(c.S), nil
	case c.N < 0 || uint64(c.N) > greatest(head):
		return 0, api.ErrRange
	}
	return head, nil
}

func appendField(out []byte, letter byte, c Cell) []byte {
	head := headSize(letter)
	switch {
	case letter == 'f':
		return appendNumber(out, head, math.Float64bits(c.F))
	case isText(letter):
		return append(appendNumber(out, head, uint64(len(c.S))), c.S...)
	}
	return appendNumber(out, head, uint64(c.N))
}

func appendNumber(out []byte, size int, n uint64) []byte {
	for i := range size {
		out = append(out, byte(n>>(8*(size-1-i))))
	}
	return out
}

func number(b []byte) uint64 {
	var n uint64
	for i := range len(b) {
		n = n<<8 | uint64(b[i])
	}
	return n
}

// span is how many bytes the field has with which b begins.
func span(letter byte, b []byte) (int, error) {
	head := headSize(letter)
	if len(b) < head {
		return 0, api.ErrShort
	}
	n := number(b[:head])
	switch {
	case isText(letter):
		if uint64(len(b)-head) < n {
			return 0, api.ErrShort
		}
		return head + int(n), nil
	case letter != 'f' && n > greatest(head):
		return 0, api.ErrRange
	}
	return head, nil
}

// cellOf is the cell of a field's bytes, neither more nor fewer than the field has.
func cellOf(letter byte, b []byte) Cell {
	head := headSize(letter)
	n := number(b[:head])
	switch {
	case letter == 'f':
		return Cell{F: math.Float64frombits(n)}
	case isText(letter):
		return Cell{S: string(b[head:])}
	}
	return Cell{N: int(n)}
}
