package fields_test

import (
	"bytes"
	"math"
	"slices"
	"strings"
	"testing"

	"jackfield/api"
	"jackfield/fields"
)

const letters = "bhwqftr"

func num(n int) fields.Cell { return fields.Cell{N: n} }

func float(f float64) fields.Cell { return fields.Cell{F: f} }

func bitsOf(u uint64) fields.Cell { return float(math.Float64frombits(u)) }

func text(s string) fields.Cell { return fields.Cell{S: s} }

func long(n int) fields.Cell { return text(strings.Repeat("x", n)) }

func same(a, b fields.Cell) bool {
	return a.N == b.N && a.S == b.S && math.Float64bits(a.F) == math.Float64bits(b.F)
}

func sameCells(a, b []fields.Cell) bool { return slices.EqualFunc(a, b, same) }

func wantBytes(t *testing.T, layout string, cells []fields.Cell, want []byte) {
	t.Helper()
	if got, err := fields.Encode(layout, cells...); err != nil || !bytes.Equal(got, want) {
		t.Errorf("Encode(%q, %.200v) = % .60x, %v; want % .60x", layout, cells, got, err, want)
	}
	if n, err := fields.Size(layout, cells...); err != nil || n != len(want) {
		t.Errorf("Size(%q, %.200v) = %d, %v; want %d", layout, cells, n, err, len(want))
	}
}

func wantCells(t *testing.T, layout string, b []byte, want []fields.Cell) {
	t.Helper()
	if got, err := fields.Decode(layout, b); err != nil || !sameCells(got, want) {
		t.Errorf("Decode(%q, % .60x) = %.200v, %v; want %.200v", layout, b, got, err, want)
	}
	wantSome(t, layout, b, len(want), true)
}

func wantEncodeError(t *testing.T, layout string, cells []fields.Cell, want error) {
	t.Helper()
	if got, err := fields.Encode(layout, cells...); err != want || len(got) != 0 {
		t.Errorf("Encode(%q, %.200v) = % .60x, %v; want %v and nothing else", layout, cells, got, err, want)
	}
	if n, err := fields.Size(layout, cells...); err != want || n != 0 {
		t.Errorf("Size(%q, %.200v) = %d, %v; want %v and 0", layout, cells, n, err, want)
	}
}

func wantDecodeError(t *testing.T, layout string, b []byte, want error) {
	t.Helper()
	if got, err := fields.Decode(layout, b); err != want || len(got) != 0 {
		t.Errorf("Decode(%q, % .60x) = %.200v, %v; want %v and nothing else", layout, b, got, err, want)
	}
}

func wantSome(t *testing.T, layout string, b []byte, n int, all bool) {
	t.Helper()
	if got, end := fields.Some(layout, b); got != n || end != all {
		t.Errorf("Some(%q, % .60x) = %d, %v; want %d, %v", layout, b, got, end, n, all)
	}
}

// P1.1: bytes that are written out here by hand, each way.
func TestEncodings(t *testing.T) {
	for _, c := range []struct {
		layout string
		cells  []fields.Cell
		want   string
	}{
		{"", nil, ""},
		{"b", []fields.Cell{num(0)}, "\x00"},
		{"b", []fields.Cell{num(7)}, "\x07"},
		{"h", []fields.Cell{num(0x0102)}, "\x01\x02"},
		{"w", []fields.Cell{num(0x01020304)}, "\x01\x02\x03\x04"},
		{"q", []fields.Cell{num(0x0102030405060708)}, "\x01\x02\x03\x04\x05\x06\x07\x08"},
		{"h", []fields.Cell{num(1)}, "\x00\x01"},
		{"w", []fields.Cell{num(1)}, "\x00\x00\x00\x01"},
		{"q", []fields.Cell{num(1)}, "\x00\x00\x00\x00\x00\x00\x00\x01"},
		{"f", []fields.Cell{float(1)}, "\x3f\xf0\x00\x00\x00\x00\x00\x00"},
		{"f", []fields.Cell{float(math.Copysign(0, -1))}, "\x80\x00\x00\x00\x00\x00\x00\x00"},
		{"t", []fields.Cell{text("")}, "\x00"},
		{"t", []fields.Cell{text("ab")}, "\x02ab"},
		{"t", []fields.Cell{text("\x00\xff\n")}, "\x03\x00\xff\n"},
		{"r", []fields.Cell{text("")}, "\x00\x00"},
		{"r", []fields.Cell{text("ab")}, "\x00\x02ab"},
		{"bht", []fields.Cell{num(1), num(258), text("ab")}, "\x01\x01\x02\x02ab"},
		{"tbrt", []fields.Cell{text("x"), num(9), text("yz"), text("")}, "\x01x\x09\x00\x02yz\x00"},
		{"qfw", []fields.Cell{num(2), float(-2), num(3)}, "\x00\x00\x00\x00\x00\x00\x00\x02\xc0\x00\x00\x00\x00\x00\x00\x00\x00\x00\x00\x03"},
	} {
		wantBytes(t, c.layout, c.cells, []byte(c.want))
		wantCells(t, c.layout, []byte(c.want), c.cells)
	}
}

// P1.1: the greatest number of each letter, one more, and negative ones.
func TestNumbersAtTheirEdges(t *testing.T) {
	for _, c := range []struct {
		layout   string
		greatest int
		want     string
	}{
		{"b", 1<<8 - 1, "\xff"},
		{"h", 1<<16 - 1, "\xff\xff"},
		{"w", 1<<32 - 1, "\xff\xff\xff\xff"},
		{"q", 1<<63 - 1, "\x7f\xff\xff\xff\xff\xff\xff\xff"},
	} {
		wantBytes(t, c.layout, []fields.Cell{num(c.greatest)}, []byte(c.want))
		wantCells(t, c.layout, []byte(c.want), []fields.Cell{num(c.greatest)})
		if c.greatest < math.MaxInt {
			wantEncodeError(t, c.layout, []fields.Cell{num(c.greatest + 1)}, api.ErrRange)
			wantEncodeError(t, c.layout, []fields.Cell{num(math.MaxInt)}, api.ErrRange)
		}
		for _, n := range []int{-1, -c.greatest, -1 << 8, -1 << 16, -1 << 32, math.MinInt} {
			wantEncodeError(t, c.layout, []fields.Cell{num(n)}, api.ErrRange)
		}
	}
}

// P1.1: a q above 2^63 - 1 is out of range, and is no field.
func TestGreatQ(t *testing.T) {
	for _, q := range []string{"\x80\x00\x00\x00\x00\x00\x00\x00", "\xff\xff\xff\xff\xff\xff\xff\xff", "\x80\x00\x00\x00\x00\x00\x00\x01"} {
		wantDecodeError(t, "q", []byte(q), api.ErrRange)
		wantSome(t, "q", []byte(q), 0, false)
		wantDecodeError(t, "bqb", []byte("\x01"+q+"\x02"), api.ErrRange)
		wantSome(t, "bqb", []byte("\x01"+q+"\x02"), 1, false)
		wantDecodeError(t, "q", []byte(q[:7]), api.ErrShort)
	}
}

// P1.1: texts of 255, 256, 65535 and 65536 bytes.
func TestTextsAtTheirEdges(t *testing.T) {
	for _, c := range []struct {
		layout string
		n      int
		head   string
	}{
		{"t", 254, "\xfe"},
		{"t", 255, "\xff"},
		{"r", 255, "\x00\xff"},
		{"r", 256, "\x01\x00"},
		{"r", 65534, "\xff\xfe"},
		{"r", 65535, "\xff\xff"},
	} {
		want := []byte(c.head + long(c.n).S)
		wantBytes(t, c.layout, []fields.Cell{long(c.n)}, want)
		wantCells(t, c.layout, want, []fields.Cell{long(c.n)})
		wantDecodeError(t, c.layout, want[:len(want)-1], api.ErrShort)
		wantSome(t, c.layout, want[:len(want)-1], 0, false)
		wantDecodeError(t, c.layout, append(want, 0), api.ErrTail)
		wantSome(t, c.layout, append(want, 0), 1, false)
	}
	for _, n := range []int{256, 257, 511, 512, 65535, 65536} {
		wantEncodeError(t, "t", []fields.Cell{long(n)}, api.ErrLong)
	}
	for _, n := range []int{65536, 65537, 131072} {
		wantEncodeError(t, "r", []fields.Cell{long(n)}, api.ErrLong)
	}
}

// P1.1: an empty layout has no fields.
func TestEmptyLayout(t *testing.T) {
	wantBytes(t, "", nil, nil)
	wantCells(t, "", nil, nil)
	wantCells(t, "", []byte{}, nil)
	wantEncodeError(t, "", []fields.Cell{num(0)}, api.ErrState)
	wantDecodeError(t, "", []byte{0}, api.ErrTail)
	wantSome(t, "", []byte{0}, 0, false)
}

// P1.1: a letter that is none of these, whatever stands around it.
func TestUnknownLetters(t *testing.T) {
	for i := range 256 {
		x := string([]byte{byte(i)})
		if strings.Contains(letters, x) {
			continue
		}
		wantEncodeError(t, x, []fields.Cell{num(0)}, api.ErrState)
		wantDecodeError(t, x, []byte{0}, api.ErrState)
		wantDecodeError(t, x, nil, api.ErrState)
		wantSome(t, x, nil, 0, false)
		wantSome(t, x, []byte{0}, 0, false)
		wantDecodeError(t, "b"+x, []byte{0}, api.ErrState)
		wantSome(t, "b"+x, []byte{0}, 1, false)
		wantSome(t, "b"+x+"b", []byte{0, 0, 0}, 1, false)
		wantSome(t, "bb"+x, []byte{0}, 1, false)
		wantSome(t, x+"b", []byte{0}, 0, false)
	}
	for _, x := range []string{"é", "b é", "日", "\xff\xfe"} {
		wantDecodeError(t, x, nil, api.ErrState)
		for n := range 6 {
			wantEncodeError(t, x, make([]fields.Cell, n), api.ErrState)
		}
	}
}

// P1.1: more or fewer cells than letters.
func TestNumberOfCells(t *testing.T) {
	for _, layout := range []string{"", "b", "t", "f", "bh", "qqq", letters} {
		for n := range len(letters) + 3 {
			if n != len(layout) {
				wantEncodeError(t, layout, make([]fields.Cell, n), api.ErrState)
			}
		}
		if _, err := fields.Encode(layout, make([]fields.Cell, len(layout))...); err != nil {
			t.Error(layout, err)
		}
	}
}

// P1.1: several errors at once.
func TestOrderOfErrors(t *testing.T) {
	for _, c := range []struct {
		layout string
		cells  []fields.Cell
		want   error
	}{
		{"bx", []fields.Cell{num(256), num(0)}, api.ErrState},
		{"tx", []fields.Cell{long(256), num(0)}, api.ErrState},
		{"b", []fields.Cell{num(-1), num(0)}, api.ErrState},
		{"bb", []fields.Cell{num(-1)}, api.ErrState},
		{"tt", []fields.Cell{long(256)}, api.ErrState},
		{"bt", []fields.Cell{num(256), long(256)}, api.ErrRange},
		{"tb", []fields.Cell{long(256), num(256)}, api.ErrLong},
		{"rq", []fields.Cell{long(65536), num(-1)}, api.ErrLong},
		{"qr", []fields.Cell{num(-1), long(65536)}, api.ErrRange},
		{"ftbr", []fields.Cell{float(1), text("a"), num(-1), long(65536)}, api.ErrRange},
		{"ftrb", []fields.Cell{float(1), text("a"), long(65536), num(-1)}, api.ErrLong},
	} {
		wantEncodeError(t, c.layout, c.cells, c.want)
	}
	great := strings.Repeat("\xff", 8)
	for _, c := range []struct {
		layout, b string
		want      error
	}{
		{"hx", "\x00", api.ErrState},
		{"qx", great, api.ErrState},
		{"bx", "\x00\x00\x00", api.ErrState},
		{"qh", great + "\x00", api.ErrRange},
		{"hq", "\x00", api.ErrShort},
		{"tq", "\x09" + great, api.ErrShort},
		{"qt", great + "\x09", api.ErrRange},
		{"q", great + "\x00", api.ErrRange},
		{"q", great[:7], api.ErrShort},
		{"bq", "\x00" + great + "\x00", api.ErrRange},
		{"bb", "\x00\x00\x00", api.ErrTail},
	} {
		wantDecodeError(t, c.layout, []byte(c.b), c.want)
	}
}

// P1.1: bytes cut short at every place, and bytes left over.
func TestCutsAndTails(t *testing.T) {
	layout := letters + "tb"
	cells := []fields.Cell{num(1), num(2), num(3), num(4), float(5), text("six"), text("seven"), text(""), num(9)}
	ends := []int{1, 3, 7, 15, 23, 27, 34, 35, 36}
	b, err := fields.Encode(layout, cells...)
	if err != nil || len(b) != 36 {
		t.Fatal(b, err)
	}
	for cut := range len(b) {
		whole := 0
		for whole < len(ends) && ends[whole] <= cut {
			whole++
		}
		wantDecodeError(t, layout, b[:cut], api.ErrShort)
		wantSome(t, layout, b[:cut], whole, false)
	}
	wantCells(t, layout, b, cells)
	for _, tail := range []string{"\x00", "\xff", "tail"} {
		wantDecodeError(t, layout, []byte(string(b)+tail), api.ErrTail)
		wantSome(t, layout, []byte(string(b)+tail), len(layout), false)
	}
	for i, end := range ends {
		wantCells(t, layout[:i+1], b[:end], cells[:i+1])
	}
}

// P1.1: what of a cell doesn't belong to its letter is ignored, and zero in results.
func TestForeignPartsOfCells(t *testing.T) {
	nan := math.NaN()
	for i := range len(letters) {
		layout := letters[i : i+1]
		full := fields.Cell{N: -1, F: nan, S: long(70000).S}
		own := fields.Cell{}
		switch layout {
		case "f":
			full.F, own.F = 2.5, 2.5
		case "t", "r":
			full.S, own.S = "own", "own"
		default:
			full.N, own.N = 77, 77
		}
		want, err := fields.Encode(layout, own)
		if err != nil {
			t.Fatal(layout, err)
		}
		wantBytes(t, layout, []fields.Cell{full}, want)
		wantCells(t, layout, want, []fields.Cell{own})
	}
}

// P1.1: arguments are neither changed nor kept, and results are new memory.
func TestMemory(t *testing.T) {
	cells := []fields.Cell{num(1), text("ab"), text("cd")}
	kept := slices.Clone(cells)
	one, _ := fields.Encode("btr", cells...)
	two, _ := fields.Encode("btr", cells...)
	want := string(one)
	for i := range one {
		one[i] = 0xee
	}
	if string(two) != want || !sameCells(cells, kept) {
		t.Error("Encode's results share memory with each other or with its arguments", two, cells)
	}
	room := append([]byte(want), "spare"...)
	got, err := fields.Decode("btr", room[:len(want)])
	if err != nil || string(room) != want+"spare" {
		t.Error("Decode has changed its argument", room, err)
	}
	if n, all := fields.Some("btr", room[:len(want)]); n != 3 || !all || string(room) != want+"spare" {
		t.Error("Some has changed or overrun its argument", room, n, all)
	}
	again, _ := fields.Decode("btr", room[:len(want)])
	for i := range room {
		room[i] = 0xee
	}
	again[1].S = "changed"
	if !sameCells(got, cells) {
		t.Error("Decode's result shares memory with its argument or another result", got)
	}
}

// P1.1: bytes behind the slice's length are not there, even if its capacity has room for them.
func TestCapacityIsNotRead(t *testing.T) {
	b := []byte("\x03abc")
	for n := range len(b) {
		wantDecodeError(t, "t", b[:n], api.ErrShort)
		wantSome(t, "t", b[:n], 0, false)
	}
}

func floatBits() []uint64 {
	list := []uint64{
		0, 1 << 63, // zeros of either sign
		0x7ff0000000000000, 0xfff0000000000000, // infinities
		0x7ff8000000000000, 0xfff8000000000000, 0x7ff8000000000001, 0x7fffffffffffffff, 0xffffffffffffffff, // quiet NaNs
		0x7ff0000000000001, 0xfff0000000000001, 0x7ff7ffffffffffff, 0xfff4000000abcdef, // signalling NaNs
		1, 1<<63 | 1, 0x000fffffffffffff, 0x800fffffffffffff, // subnormal numbers
		0x0010000000000000, 0x7fefffffffffffff, 0xffefffffffffffff, // the least and greatest normal ones
		0x3ff0000000000000, 0xbff0000000000000, 0x0123456789abcdef, 0xfedcba9876543210,
	}
	for i := range 64 {
		list = append(list, 1<<i, ^uint64(1<<i))
	}
	return list
}

// P1.2: every kind of float64 comes back bit by bit, and its bytes are its bits.
func TestFloatsBitByBit(t *testing.T) {
	for _, u := range floatBits() {
		var want []byte
		for shift := 56; shift >= 0; shift -= 8 {
			want = append(want, byte(u>>shift))
		}
		wantBytes(t, "f", []fields.Cell{bitsOf(u)}, want)
		got, err := fields.Decode("f", want)
		if err != nil || len(got) != 1 || math.Float64bits(got[0].F) != u {
			t.Errorf("Decode of %016x = %v, %v", u, got, err)
		}
		wantSome(t, "f", want, 1, true)
		back, err := fields.Encode("f", got...)
		if err != nil || !bytes.Equal(back, want) {
			t.Errorf("%016x came back as % x, %v", u, back, err)
		}
	}
}
