package drum_test

import (
	"bytes"
	"math"
	"testing"

	"jackfield/api"
	"jackfield/drum"
)

func newDrum(t *testing.T, blocks int) *drum.Drum {
	t.Helper()
	d, err := drum.New(blocks)
	if err != nil || d == nil {
		t.Fatalf("New(%d) = %v, %v", blocks, d, err)
	}
	return d
}

// full is a block whose bytes all differ from those of the block of another n near it.
func full(n int) api.Block {
	var b api.Block
	for i := range b {
		b[i] = byte(n*67 + i + 1)
	}
	return b
}

// bytesOf is n bytes of which no two near ones are the same.
func bytesOf(n int) []byte {
	b := make([]byte, n)
	for i := range b {
		b[i] = byte(i%251 + i/251)
	}
	return b
}

func write(t *testing.T, d *drum.Drum, i int, b api.Block, want error) {
	t.Helper()
	if err := d.Write(i, b); err != want {
		t.Fatalf("Write(%d, ..) = %v, want %v", i, err, want)
	}
}

func read(t *testing.T, d *drum.Drum, i int, want api.Block, wantErr error) {
	t.Helper()
	if b, err := d.Read(i); b != want || err != wantErr {
		t.Fatalf("Read(%d) = %x, %v; want %x, %v", i, b, err, want, wantErr)
	}
}

// wantState asks all that can be asked of a drum without a block's number.
func wantState(t *testing.T, d *drum.Drum, off bool, writes int, image []byte) {
	t.Helper()
	if d.Off() != off || d.Writes() != writes || d.Blocks() != len(image)/api.BlockSize {
		t.Fatalf("Off, Writes, Blocks = %v, %d, %d; want %v, %d, %d", d.Off(), d.Writes(), d.Blocks(), off, writes, len(image)/api.BlockSize)
	}
	if got := d.Image(); !bytes.Equal(got, image) {
		t.Fatalf("Image() is %x, want %x", got, image)
	}
}

// imageOf is the bytes of these blocks.
func imageOf(blocks ...api.Block) []byte {
	var image []byte
	for _, b := range blocks {
		image = append(image, b[:]...)
	}
	return image
}

// P4.1, P4.2: the chapter's example.
func TestExample(t *testing.T) {
	d := newDrum(t, 2)
	d.Arm(1)
	write(t, d, 0, full(1), nil)
	write(t, d, 1, full(2), api.ErrPower)
	read(t, d, 0, api.Block{}, api.ErrPower)
	d.On()
	read(t, d, 0, full(1), nil)
	read(t, d, 1, api.Block{}, nil)
	wantState(t, d, false, 1, imageOf(full(1), api.Block{}))
}

// P4.1: how many blocks a new drum may have, and what it holds.
func TestNew(t *testing.T) {
	for _, blocks := range []int{math.MinInt, -api.MaxBlocks, -1, 0, api.MaxBlocks + 1, math.MaxInt32, math.MaxInt} {
		if d, err := drum.New(blocks); d != nil || err != api.ErrRange {
			t.Errorf("New(%d) = %v, %v; want ErrRange", blocks, d, err)
		}
	}
	for _, blocks := range []int{1, 2, 10, api.MaxBlocks - 1, api.MaxBlocks} {
		d := newDrum(t, blocks)
		wantState(t, d, false, 0, make([]byte, blocks*api.BlockSize))
		for i := range blocks {
			read(t, d, i, api.Block{}, nil)
		}
		// Nothing is armed: each block can be written, and more than once.
		for i := range 2 * blocks {
			write(t, d, i%blocks, full(i), nil)
		}
		for i := range blocks {
			read(t, d, i, full(blocks+i), nil)
		}
		if d.Writes() != 2*blocks {
			t.Errorf("%d blocks: Writes() = %d, want %d", blocks, d.Writes(), 2*blocks)
		}
	}
}

// P4.1: which images are a drum's.
func TestFrom(t *testing.T) {
	const most = api.MaxBlocks * api.BlockSize
	for _, n := range []int{0, 1, 63, 65, 127, 129, most - 1, most + 1, most + api.BlockSize, 2 * most} {
		if d, err := drum.From(make([]byte, n)); d != nil || err != api.ErrRange {
			t.Errorf("From(%d bytes) = %v, %v; want ErrRange", n, d, err)
		}
	}
	if d, err := drum.From(nil); d != nil || err != api.ErrRange {
		t.Errorf("From(nil) = %v, %v; want ErrRange", d, err)
	}
	for _, n := range []int{64, 128, 640, most - api.BlockSize, most} {
		image := bytesOf(n)
		d, err := drum.From(image)
		if err != nil || d == nil {
			t.Fatalf("From(%d bytes) = %v, %v", n, d, err)
		}
		wantState(t, d, false, 0, image)
		for i := range d.Blocks() {
			read(t, d, i, api.Block(image[i*api.BlockSize:]), nil)
		}
		write(t, d, d.Blocks()-1, full(3), nil)
		last := full(3)
		copy(image[n-api.BlockSize:], last[:])
		wantState(t, d, false, 1, image)
	}
}

// P4.1: an image makes a drum with its blocks alone: power, armed count and number of writes are new.
func TestFromImage(t *testing.T) {
	d := newDrum(t, 3)
	write(t, d, 1, full(1), nil)
	d.Arm(1)
	write(t, d, 2, full(2), nil)
	want := imageOf(api.Block{}, full(1), full(2))
	check := func() {
		t.Helper()
		c, err := drum.From(d.Image())
		if err != nil {
			t.Fatal(err)
		}
		wantState(t, c, false, 0, want)
		write(t, c, 0, full(4), nil)
		write(t, c, 0, full(5), nil)
		wantState(t, c, false, 2, imageOf(full(5), full(1), full(2)))
	}
	check()
	write(t, d, 0, full(3), api.ErrPower)
	wantState(t, d, true, 2, want)
	check()
}

// P4.1, rule 4: a drum shares no memory with what it was given or what it answers.
func TestNothingShared(t *testing.T) {
	const size = 2 * api.BlockSize
	backing := bytesOf(size + 100)
	given, want := bytes.Clone(backing), bytes.Clone(backing[:size])
	d, err := drum.From(given[:size])
	if err != nil {
		t.Fatal(err)
	}
	write(t, d, 1, full(1), nil)
	if !bytes.Equal(given, backing) {
		t.Error("the given image has changed")
	}
	clear(given)
	b := full(1)
	copy(want[api.BlockSize:], b[:])
	wantState(t, d, false, 1, want)

	out := d.Image()
	other := d.Image()
	for i := range out[:cap(out)] {
		out[:cap(out)][i] = 0xee
	}
	if !bytes.Equal(other, want) {
		t.Error("two images share memory")
	}
	wantState(t, d, false, 1, want)
	write(t, d, 0, full(9), nil)
	if !bytes.Equal(other, want) {
		t.Error("an image has changed with its drum")
	}
	got, _ := d.Read(0)
	got[0]++
	read(t, d, 0, full(9), nil)
}

var wrongBlocks = []int{math.MinInt, math.MinInt32, -64, -1, 3, 4, api.MaxBlocks, math.MaxInt32, math.MaxInt}

// P4.1: a block that isn't there is refused, and that counts as no write.
func TestWrongBlock(t *testing.T) {
	d := newDrum(t, 3)
	for i := range 3 {
		write(t, d, i, full(i), nil)
	}
	want := imageOf(full(0), full(1), full(2))
	refused := func(err error, off bool, writes int) {
		t.Helper()
		for _, i := range wrongBlocks {
			read(t, d, i, api.Block{}, err)
			write(t, d, i, full(7), err)
		}
		wantState(t, d, off, writes, want)
	}
	refused(api.ErrRange, false, 3)
	d.Arm(1)
	refused(api.ErrRange, false, 3)
	write(t, d, 0, full(0), nil)
	// The count is 0 now, but ErrRange is named ahead of the failing power, which stays on.
	refused(api.ErrRange, false, 4)
	read(t, d, 2, full(2), nil)
	write(t, d, 0, full(8), api.ErrPower)
	// ErrPower is named ahead of ErrRange where the power is off.
	refused(api.ErrPower, true, 4)
	d.On()
	refused(api.ErrRange, false, 4)
}

// P4.1: while the power is off nothing is read or written, and all else is answered as ever.
func TestOff(t *testing.T) {
	d := newDrum(t, 3)
	write(t, d, 2, full(1), nil)
	d.Arm(0)
	want := imageOf(api.Block{}, api.Block{}, full(1))
	wantState(t, d, false, 1, want)
	write(t, d, 2, full(2), api.ErrPower)
	for _, n := range []int{-1, 0, 1, 5, math.MaxInt, math.MinInt} {
		wantState(t, d, true, 1, want)
		for i := range 3 {
			read(t, d, i, api.Block{}, api.ErrPower)
			write(t, d, i, full(3), api.ErrPower)
		}
		// Arming puts no power on.
		d.Arm(n)
	}
	wantState(t, d, true, 1, want)
	d.On()
	wantState(t, d, false, 1, want)
	read(t, d, 2, full(1), nil)
}

// P4.2: armed with n, exactly the next n writes take effect, whatever else is asked between them.
func TestArmed(t *testing.T) {
	for n := range 12 {
		for before := range 3 {
			d := newDrum(t, 4)
			blocks := make([]api.Block, 4)
			for i := range before {
				blocks[i] = full(50 + i)
				write(t, d, i, blocks[i], nil)
			}
			d.Arm(n)
			for i := range n {
				read(t, d, i%4, blocks[i%4], nil)
				write(t, d, 4, full(99), api.ErrRange)
				write(t, d, i%4, full(i), nil)
				blocks[i%4] = full(i)
				wantState(t, d, false, before+i+1, imageOf(blocks...))
			}
			for i := range 6 {
				write(t, d, (n+i)%4, full(98), api.ErrPower)
				wantState(t, d, true, before+n, imageOf(blocks...))
			}
			d.On()
			wantState(t, d, false, before+n, imageOf(blocks...))
			// Nothing is armed then, so more than n writes take effect.
			for i := range n + 3 {
				write(t, d, i%4, full(i+20), nil)
				blocks[i%4] = full(i + 20)
			}
			wantState(t, d, false, before+2*n+3, imageOf(blocks...))
		}
	}
}

// P4.2: a write of what stands there already is a write too.
func TestSameBytesCount(t *testing.T) {
	d := newDrum(t, 1)
	d.Arm(2)
	write(t, d, 0, api.Block{}, nil)
	write(t, d, 0, api.Block{}, nil)
	write(t, d, 0, api.Block{}, api.ErrPower)
	wantState(t, d, true, 2, make([]byte, api.BlockSize))
}

// lasts tells how many of up to most writes take effect.
func lasts(d *drum.Drum, most int) int {
	for i := range most {
		if d.Write(0, full(i)) != nil {
			return i
		}
	}
	return most
}

// P4.1, P4.2: the last Arm counts, and none of it is left after On.
func TestArmAgain(t *testing.T) {
	const many = 40
	on := func(d *drum.Drum) { d.On() }
	arm := func(n int) func(*drum.Drum) { return func(d *drum.Drum) { d.Arm(n) } }
	writes := func(n int) func(*drum.Drum) { return func(d *drum.Drum) { lasts(d, n) } }
	for _, c := range []struct {
		name  string
		calls []func(*drum.Drum)
		want  int
	}{
		{"less", []func(*drum.Drum){arm(9), arm(2)}, 2},
		{"more", []func(*drum.Drum){arm(2), arm(9)}, 9},
		{"more, after writes", []func(*drum.Drum){arm(2), writes(2), arm(9)}, 9},
		{"no more than the last", []func(*drum.Drum){arm(9), writes(5), arm(3)}, 3},
		{"none", []func(*drum.Drum){arm(2), writes(1), arm(-1)}, many},
		{"none at all", []func(*drum.Drum){arm(0), arm(math.MinInt)}, many},
		{"none, then some", []func(*drum.Drum){arm(-1), arm(4)}, 4},
		{"very many", []func(*drum.Drum){arm(math.MaxInt)}, many},
		{"on while on", []func(*drum.Drum){arm(0), on}, many},
		{"on while on, after writes", []func(*drum.Drum){arm(3), writes(2), on}, many},
		{"armed while off", []func(*drum.Drum){arm(0), writes(1), arm(1), on}, many},
		{"armed after off", []func(*drum.Drum){arm(0), writes(1), on, arm(1)}, 1},
		{"off", []func(*drum.Drum){arm(0), writes(1), arm(5)}, 0},
		{"off, none armed", []func(*drum.Drum){arm(0), writes(1), arm(-1)}, 0},
		{"on, and on again", []func(*drum.Drum){arm(1), writes(2), on, on}, many},
	} {
		d := newDrum(t, 2)
		for _, call := range c.calls {
			call(d)
		}
		before := d.Writes()
		if got := lasts(d, many); got != c.want || d.Writes() != before+got {
			t.Errorf("%s: %d writes took effect, %d were counted; want %d", c.name, got, d.Writes()-before, c.want)
		}
	}
}

// Rule 7: a drum's power and blocks are its own.
func TestTwoDrums(t *testing.T) {
	d, other := newDrum(t, 2), newDrum(t, 2)
	d.Arm(0)
	write(t, other, 1, full(1), nil)
	write(t, d, 1, full(2), api.ErrPower)
	wantState(t, other, false, 1, imageOf(api.Block{}, full(1)))
	wantState(t, d, true, 0, make([]byte, 2*api.BlockSize))
	other.On()
	wantState(t, d, true, 0, make([]byte, 2*api.BlockSize))
}
