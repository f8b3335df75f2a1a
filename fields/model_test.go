package fields_test

import (
	"bytes"
	"encoding/binary"
	"io"
	"math"
	"strings"
	"testing"

	"jackfield/api"
	"jackfield/fields"
)

// The model says the chapter a second time, by the library's encoding; the tests below hold the package against it.

func modelEncode(layout string, cells []fields.Cell) ([]byte, error) {
	if strings.Trim(layout, letters) != "" || len(cells) != len(layout) {
		return nil, api.ErrState
	}
	var out bytes.Buffer
	for i, c := range cells {
		switch k := layout[i]; {
		case k == 'b' && 0 <= c.N && c.N <= math.MaxUint8:
			binary.Write(&out, binary.BigEndian, uint8(c.N))
		case k == 'h' && 0 <= c.N && c.N <= math.MaxUint16:
			binary.Write(&out, binary.BigEndian, uint16(c.N))
		case k == 'w' && 0 <= c.N && c.N <= math.MaxUint32:
			binary.Write(&out, binary.BigEndian, uint32(c.N))
		case k == 'q' && 0 <= c.N:
			binary.Write(&out, binary.BigEndian, int64(c.N))
		case k == 'f':
			binary.Write(&out, binary.BigEndian, math.Float64bits(c.F))
		case k == 't' && len(c.S) <= 255:
			binary.Write(&out, binary.BigEndian, uint8(len(c.S)))
			out.WriteString(c.S)
		case k == 'r' && len(c.S) <= 65535:
			binary.Write(&out, binary.BigEndian, uint16(len(c.S)))
			out.WriteString(c.S)
		case k == 't' || k == 'r':
			return nil, api.ErrLong
		default:
			return nil, api.ErrRange
		}
	}
	return out.Bytes(), nil
}

func modelText(in *bytes.Reader, n int) (fields.Cell, error) {
	b := make([]byte, n)
	_, err := io.ReadFull(in, b)
	return text(string(b)), err
}

func modelField(letter byte, in *bytes.Reader) (fields.Cell, error) {
	var (
		b uint8
		h uint16
		w uint32
		q uint64
	)
	switch letter {
	case 'b', 't':
		if binary.Read(in, binary.BigEndian, &b) != nil {
			return fields.Cell{}, api.ErrShort
		}
	case 'h', 'r':
		if binary.Read(in, binary.BigEndian, &h) != nil {
			return fields.Cell{}, api.ErrShort
		}
	case 'w':
		if binary.Read(in, binary.BigEndian, &w) != nil {
			return fields.Cell{}, api.ErrShort
		}
	case 'q', 'f':
		if binary.Read(in, binary.BigEndian, &q) != nil {
			return fields.Cell{}, api.ErrShort
		}
	}
	switch letter {
	case 't', 'r':
		c, err := modelText(in, int(b)+int(h))
		if err != nil {
			return fields.Cell{}, api.ErrShort
		}
		return c, nil
	case 'f':
		return bitsOf(q), nil
	}
	if q > math.MaxInt64 {
		return fields.Cell{}, api.ErrRange
	}
	return num(int(b) + int(h) + int(w) + int(q)), nil
}

func modelDecode(layout string, b []byte) ([]fields.Cell, error) {
	if strings.Trim(layout, letters) != "" {
		return nil, api.ErrState
	}
	in := bytes.NewReader(b)
	var out []fields.Cell
	for i := range len(layout) {
		c, err := modelField(layout[i], in)
		if err != nil {
			return nil, err
		}
		out = append(out, c)
	}
	if in.Len() > 0 {
		return nil, api.ErrTail
	}
	return out, nil
}

// modelSome asks for the longest part of the layout that leaves nothing to wish but, perhaps, an end.
func modelSome(layout string, b []byte) (int, bool) {
	n := 0
	for k := range len(layout) + 1 {
		if _, err := modelDecode(layout[:k], b); err == nil || err == api.ErrTail {
			n = k
		}
	}
	_, err := modelDecode(layout, b)
	return n, err == nil
}

func agreeOnCells(t *testing.T, layout string, cells []fields.Cell) {
	t.Helper()
	want, wrong := modelEncode(layout, cells)
	if wrong != nil {
		wantEncodeError(t, layout, cells, wrong)
		return
	}
	wantBytes(t, layout, cells, want)
	agreeOnBytes(t, layout, want)
	back, err := fields.Decode(layout, want)
	if err != nil || !sameCells(back, cells) {
		t.Errorf("Decode(%q) of Encode of %.200v = %.200v, %v", layout, cells, back, err)
	}
}

func agreeOnBytes(t *testing.T, layout string, b []byte) {
	t.Helper()
	n, all := modelSome(layout, b)
	wantSome(t, layout, b, n, all)
	want, wrong := modelDecode(layout, b)
	if wrong != nil {
		wantDecodeError(t, layout, b, wrong)
		return
	}
	wantCells(t, layout, b, want)
	got, _ := fields.Decode(layout, b)
	if back, err := fields.Encode(layout, got...); err != nil || !bytes.Equal(back, b) {
		t.Errorf("Encode(%q) of Decode of % .60x = % .60x, %v", layout, b, back, err)
	}
}

func layouts(most int) []string {
	list := []string{""}
	for at := 0; at < len(list); at++ {
		if len(list[at]) < most {
			for _, x := range letters + "x" {
				list = append(list, list[at]+string(x))
			}
		}
	}
	return list
}

func edgeCells(letter byte) []fields.Cell {
	switch letter {
	case 'f':
		return []fields.Cell{float(0), float(math.Copysign(0, -1)), bitsOf(0x7ff0000000000001), bitsOf(0xfff8000000000002), float(math.Inf(-1)), float(1.5)}
	case 't':
		return []fields.Cell{text(""), text("a"), long(255), long(256)}
	case 'r':
		return []fields.Cell{text(""), text("é"), long(256), long(65535), long(65536)}
	}
	return []fields.Cell{num(0), num(255), num(256), num(65535), num(65536), num(1<<32 - 1), num(1 << 32), num(math.MaxInt), num(-1), num(math.MinInt)}
}

// P1.1 and P1.2: all layouts of up to two letters, with every choice of edges.
func TestCellsAgainstModel(t *testing.T) {
	for _, layout := range layouts(2) {
		choices := [][]fields.Cell{nil}
		for i := range len(layout) {
			var more [][]fields.Cell
			for _, c := range choices {
				for _, e := range edgeCells(layout[i]) {
					more = append(more, append(c[:len(c):len(c)], e))
				}
			}
			choices = more
		}
		for _, cells := range choices {
			agreeOnCells(t, layout, cells)
		}
		agreeOnCells(t, layout, make([]fields.Cell, len(layout)+1))
	}
}

// P1.1 and P1.2: all layouts of up to two letters, over all short strings of some bytes.
func TestShortBytesAgainstModel(t *testing.T) {
	inputs := []string{""}
	for at := 0; at < len(inputs); at++ {
		if len(inputs[at]) < 5 {
			for _, x := range []string{"\x00", "\x01", "\x02", "\xff"} {
				inputs = append(inputs, inputs[at]+x)
			}
		}
	}
	for _, layout := range layouts(2) {
		for _, b := range inputs {
			agreeOnBytes(t, layout, []byte(b))
		}
	}
}

// P1.1 and P1.2: all layouts of up to three letters, over what wider fields need: every cut of bytes of several kinds.
func TestCutBytesAgainstModel(t *testing.T) {
	for _, unit := range []string{"\x00", "\x01", "\x7f", "\x80", "\xff", "\x00\x03", "\x00\x00\x00\x00\x00\x00\x00\x01\x80"} {
		whole := []byte(strings.Repeat(unit, 26))[:26]
		for _, layout := range layouts(3) {
			for n := range len(whole) + 1 {
				agreeOnBytes(t, layout, whole[:n])
			}
		}
	}
}

// P1.2: long layouts of all letters, with cells from a rule; each kind of float64 among them.
func TestLongLayoutsAgainstModel(t *testing.T) {
	floats := floatBits()
	state := uint64(1)
	next := func() uint64 {
		state = state*6364136223846793005 + 1442695040888963407
		return state >> 11
	}
	for length := range 200 {
		var layout []byte
		var cells []fields.Cell
		for range length {
			k := letters[next()%uint64(len(letters))]
			layout = append(layout, k)
			switch k {
			case 'b':
				cells = append(cells, num(int(next()%(1<<8))))
			case 'h':
				cells = append(cells, num(int(next()%(1<<16))))
			case 'w':
				cells = append(cells, num(int(next()%(1<<32))))
			case 'q':
				cells = append(cells, num(int(next()<<10|next()%1024)))
			case 'f':
				cells = append(cells, bitsOf(floats[next()%uint64(len(floats))]))
			case 't':
				cells = append(cells, long(int(next()%256)))
			case 'r':
				cells = append(cells, long(int(next()%600)))
			}
		}
		agreeOnCells(t, string(layout), cells)
	}
}
