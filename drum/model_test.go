package drum_test

import (
	"bytes"
	"fmt"
	"math"
	"math/rand"
	"slices"
	"testing"

	"jackfield/api"
	"jackfield/drum"
)

// model says the chapter a second time: a drum is the image it began with and the list of its writes, and its power goes at a place in that list.
type model struct {
	start []byte
	log   []entry
	end   int // the length of the log at which the next write fails; -1: none
	off   bool
}

type entry struct {
	place int
	block api.Block
}

func (m *model) there(i int) bool { return i >= 0 && i < len(m.start)/api.BlockSize }

func (m *model) image() []byte {
	image := bytes.Clone(m.start)
	for _, e := range m.log {
		copy(image[e.place*api.BlockSize:], e.block[:])
	}
	return image
}

// block looks for the last write of a block, and takes it from the beginning if there is none.
func (m *model) block(i int) (api.Block, error) {
	switch {
	case m.off:
		return api.Block{}, api.ErrPower
	case !m.there(i):
		return api.Block{}, api.ErrRange
	}
	for _, e := range slices.Backward(m.log) {
		if e.place == i {
			return e.block, nil
		}
	}
	return api.Block(m.start[i*api.BlockSize:]), nil
}

func (m *model) put(i int, b api.Block) error {
	switch {
	case m.off:
		return api.ErrPower
	case !m.there(i):
		return api.ErrRange
	case len(m.log) == m.end:
		m.off = true
		return api.ErrPower
	}
	m.log = append(m.log, entry{i, b})
	return nil
}

func (m *model) arm(n int) {
	m.end = -1
	// What is further away than any test writes is as good as none.
	if n >= 0 && n < math.MaxInt32 {
		m.end = len(m.log) + n
	}
}

// A step is one call of a drum, by its letter: Write, Read, Arm, On.
type step struct {
	letter byte
	n      int // the block, or the count
}

func (s step) String() string {
	switch s.letter {
	case 'w':
		return fmt.Sprintf("Write(%d)", s.n)
	case 'r':
		return fmt.Sprintf("Read(%d)", s.n)
	case 'a':
		return fmt.Sprintf("Arm(%d)", s.n)
	}
	return "On()"
}

// A play is a drum and its model, which take the same steps.
type play struct {
	drum  *drum.Drum
	model model
	next  int // of the blocks that are written, so that no two are the same
}

func newPlay(t *testing.T, image []byte) *play {
	t.Helper()
	d, err := drum.From(image)
	if err != nil || d == nil {
		t.Fatalf("From(%d bytes) = %v, %v", len(image), d, err)
	}
	return &play{drum: d, model: model{start: image, end: -1}}
}

// take plays a step on both, and is "" or how they differ.
func (p *play) take(s step) string {
	switch s.letter {
	case 'w':
		p.next++
		b := full(p.next)
		if got, want := p.drum.Write(s.n, b), p.model.put(s.n, b); got != want {
			return fmt.Sprintf("%v = %v, want %v", s, got, want)
		}
	case 'r':
		got, err := p.drum.Read(s.n)
		want, wantErr := p.model.block(s.n)
		if got != want || err != wantErr {
			return fmt.Sprintf("%v = %x, %v; want %x, %v", s, got, err, want, wantErr)
		}
	case 'a':
		p.drum.Arm(s.n)
		p.model.arm(s.n)
	default:
		p.drum.On()
		p.model.off, p.model.end = false, -1
	}
	return p.differs()
}

// differs asks what can be asked without a block's number.
func (p *play) differs() string {
	if p.drum.Off() != p.model.off || p.drum.Writes() != len(p.model.log) || p.drum.Blocks() != len(p.model.start)/api.BlockSize {
		return fmt.Sprintf("Off, Writes, Blocks = %v, %d, %d; want %v, %d", p.drum.Off(), p.drum.Writes(), p.drum.Blocks(), p.model.off, len(p.model.log))
	}
	return ""
}

func (p *play) takeAll(t *testing.T, steps []step) {
	t.Helper()
	for i, s := range steps {
		if diff := p.take(s); diff != "" {
			t.Fatalf("%d blocks, %v: %s", p.drum.Blocks(), steps[:i+1], diff)
		}
	}
	if got, want := p.drum.Image(), p.model.image(); !bytes.Equal(got, want) {
		t.Fatalf("%d blocks, %v: Image() is %x, want %x", p.drum.Blocks(), steps, got, want)
	}
}

// P4.1, P4.2: every order of six calls from a set of them.
func TestEveryOrder(t *testing.T) {
	calls := []step{{'w', 0}, {'w', 1}, {'w', 2}, {'r', 1}, {'r', -1}, {'a', -1}, {'a', 0}, {'a', 2}, {letter: 'o'}}
	image := bytesOf(2 * api.BlockSize)
	steps := make([]step, 6)
	orders := 1
	for range steps {
		orders *= len(calls)
	}
	for order := range orders {
		for i := range steps {
			steps[i] = calls[order%len(calls)]
			order /= len(calls)
		}
		newPlay(t, image).takeAll(t, steps)
	}
}

// chance is a step by chance; some of them have a wrong block or a great count.
func chance(r *rand.Rand, blocks int) step {
	switch k := r.Intn(100); {
	case k < 55:
		return step{'w', r.Intn(blocks)}
	case k < 75:
		return step{'r', r.Intn(blocks)}
	case k < 85:
		far := []int{-1, blocks, blocks + 1, math.MinInt, math.MaxInt}
		return step{"wr"[r.Intn(2)], far[r.Intn(len(far))]}
	case k < 94:
		return step{'a', r.Intn(8)}
	case k < 95:
		far := []int{-1, -9, math.MinInt, math.MaxInt}
		return step{'a', far[r.Intn(len(far))]}
	}
	return step{letter: 'o'}
}

// P4.1, P4.2: calls by chance, of all kinds, on drums of many sizes.
func TestManyOrders(t *testing.T) {
	r := rand.New(rand.NewSource(5))
	sizes := []int{1, 2, 3, 10, 64, 500}
	for i := range 1200 {
		blocks := sizes[i%len(sizes)]
		p := newPlay(t, bytesOf(blocks*api.BlockSize))
		for range 5 {
			steps := make([]step, 0, 60)
			for range 60 {
				steps = append(steps, chance(r, blocks))
			}
			p.takeAll(t, steps)
		}
	}
}

// P4.2: the power fails at every place of one row of writes, and what stands there is that row up to that place.
func TestFailAnywhere(t *testing.T) {
	const blocks, row = 7, 30
	for n := range row + 1 {
		p := newPlay(t, make([]byte, blocks*api.BlockSize))
		steps := []step{{'a', n}}
		for i := range row {
			steps = append(steps, step{'w', i * 3 % blocks})
		}
		p.takeAll(t, steps)
		if p.drum.Writes() != n || p.drum.Off() != (n < row) {
			t.Fatalf("Arm(%d): %d writes, Off() = %v", n, p.drum.Writes(), p.drum.Off())
		}
		steps = []step{{letter: 'o'}}
		for i := range blocks {
			steps = append(steps, step{'r', i})
		}
		p.takeAll(t, steps)
	}
}
