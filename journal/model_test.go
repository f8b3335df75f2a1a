package journal_test

import (
	"bytes"
	"crypto/sha256"
	"encoding/binary"
	"fmt"
	"math/rand"
	"slices"
	"testing"

	"jackfield/api"
	"jackfield/drum"
	"jackfield/journal"
)

// raw is the bytes of a block with a right check, whether or not its kind and its count are right.
func raw(kind byte, x, y, z uint32, count byte, data []byte) []byte {
	b := make([]byte, 14, api.BlockSize)
	b[0], b[13] = kind, count
	binary.BigEndian.PutUint32(b[1:], x)
	binary.BigEndian.PutUint32(b[5:], y)
	binary.BigEndian.PutUint32(b[9:], z)
	b = append(append(b, data...), make([]byte, 46)...)[:60]
	return sealed(b)
}

// sealed puts a right check behind the first 60 bytes of a block.
func sealed(b []byte) []byte {
	sum := sha256.Sum256(b[:60])
	return append(bytes.Clone(b[:60]), sum[:4]...)
}

// A mhead is a head of the model, and the block where it stands.
type mhead struct {
	place              int
	serial, gen, epoch uint32
	area               int
}

func (h mhead) bytes() []byte { return raw(3, h.serial, h.gen, h.epoch, 1, []byte{byte(h.area)}) }

// recordBytes is the blocks of a record, one behind the other.
func recordBytes(gen, epoch uint32, at int, record []byte) []byte {
	rest := binary.BigEndian.AppendUint16(nil, uint16(len(record)))
	rest = append(rest, record...)
	var out []byte
	for kind := byte(1); len(rest) > 0; kind = 2 {
		n := min(46, len(rest))
		out = append(out, raw(kind, gen, epoch, uint32(at), byte(n), rest[:n])...)
		rest = rest[n:]
		at++
	}
	return out
}

// model says the chapter a second time, about the bytes of an image: what is there is what writing it would have left.
type model struct{ image []byte }

func (m model) block(i int) []byte { return m.image[i*api.BlockSize : (i+1)*api.BlockSize] }

func (m model) blocks() int { return len(m.image) / api.BlockSize }

func (m model) half() int { return (m.blocks() - 2) / 2 }

func (m model) area(a int) []byte {
	size := m.half() * api.BlockSize
	return m.image[2*api.BlockSize+a*size:][:size]
}

func (m model) head() (best mhead, found bool) {
	for place := range 2 {
		b := m.block(place)
		h := mhead{place, binary.BigEndian.Uint32(b[1:]), binary.BigEndian.Uint32(b[5:]), binary.BigEndian.Uint32(b[9:]), int(b[14] & 1)}
		if bytes.Equal(h.bytes(), b) && (!found || h.serial > best.serial) {
			best, found = h, true
		}
	}
	return best, found
}

// records tries each length at each place, by that length's own blocks.
func (m model) records(h mhead) (all [][]byte) {
	area := m.area(h.area)
	least := uint32(0)
	for at := 0; at < m.half(); {
		rest := area[at*api.BlockSize:]
		size, epoch := int(binary.BigEndian.Uint16(rest[14:])), binary.BigEndian.Uint32(rest[5:])
		need := (size + 2 + 45) / 46
		if size > 2000 || need > m.half()-at || epoch > h.epoch || epoch < least {
			break
		}
		var data []byte
		for i := range need {
			data = append(data, rest[i*api.BlockSize+14:i*api.BlockSize+60]...)
		}
		record := data[2 : 2+size]
		if !bytes.HasPrefix(rest, recordBytes(h.gen, epoch, at, record)) {
			break
		}
		all = append(all, bytes.Clone(record))
		least = epoch
		at += need
	}
	return all
}

// A mjournal is a journal of the model.
type mjournal struct {
	head    mhead
	records [][]byte
	half    int
	dead    bool
}

func (j *mjournal) used() int {
	n := 0
	for _, r := range j.records {
		n += (len(r) + 47) / 46
	}
	return n
}

func (j *mjournal) free() int {
	best := -1
	for size := range 2001 {
		if j.used()+(size+47)/46 <= j.half {
			best = size
		}
	}
	return best
}

// A mwrite is blocks that are written one by one, from a place on.
type mwrite struct {
	place int
	bytes []byte
}

// A mcall is what a call would do if the power lasted: an error, or its writes and the journal after them.
type mcall struct {
	err    error
	writes []mwrite
	after  mjournal
}

func tooGreat(n uint32) bool { return n == 1<<32-1 }

func (m model) format(snapshot []byte) mcall {
	if m.blocks() < 10 {
		return mcall{err: api.ErrRange}
	}
	if len(snapshot) > 2000 {
		return mcall{err: api.ErrLong}
	}
	next := mhead{place: 0, serial: 1, gen: 1, epoch: 1}
	if h, ok := m.head(); ok {
		if tooGreat(h.serial) || tooGreat(h.gen) || tooGreat(h.epoch) {
			return mcall{err: api.ErrFull}
		}
		next = mhead{1 - h.place, h.serial + 1, h.gen + 1, h.epoch + 1, 1 - h.area}
	}
	return m.begin(next, snapshot)
}

func (m model) begin(next mhead, snapshot []byte) mcall {
	b := recordBytes(next.gen, next.epoch, 0, snapshot)
	if len(b) > m.half()*api.BlockSize {
		return mcall{err: api.ErrFull}
	}
	return mcall{
		writes: []mwrite{{2 + next.area*m.half(), b}, {next.place, next.bytes()}},
		after:  mjournal{head: next, records: [][]byte{bytes.Clone(snapshot)}, half: m.half()},
	}
}

func (m model) open() mcall {
	if m.blocks() < 10 {
		return mcall{err: api.ErrRange}
	}
	h, ok := m.head()
	if !ok || len(m.records(h)) == 0 {
		return mcall{err: api.ErrNone}
	}
	if tooGreat(h.serial) || tooGreat(h.epoch) {
		return mcall{err: api.ErrFull}
	}
	next := mhead{1 - h.place, h.serial + 1, h.gen, h.epoch + 1, h.area}
	return mcall{
		writes: []mwrite{{next.place, next.bytes()}},
		after:  mjournal{head: next, records: m.records(h), half: m.half()},
	}
}

func (m model) add(j mjournal, record []byte) mcall {
	if len(record) > 2000 {
		return mcall{err: api.ErrLong}
	}
	b := recordBytes(j.head.gen, j.head.epoch, j.used(), record)
	if j.used()+len(b)/api.BlockSize > m.half() {
		return mcall{err: api.ErrFull}
	}
	w := mwrite{2 + j.head.area*m.half() + j.used(), b}
	j.records = append(slices.Clone(j.records), bytes.Clone(record))
	return mcall{writes: []mwrite{w}, after: j}
}

func (m model) compact(j mjournal, snapshot []byte) mcall {
	h := j.head
	if len(snapshot) > 2000 {
		return mcall{err: api.ErrLong}
	}
	if tooGreat(h.serial) || tooGreat(h.gen) {
		return mcall{err: api.ErrFull}
	}
	return m.begin(mhead{1 - h.place, h.serial + 1, h.gen + 1, h.epoch, 1 - h.area}, snapshot)
}

// play writes up to n blocks of a call into the image (all of them if n is -1), and is how many it wrote, and whether all are written.
func (m model) play(c mcall, n int) (int, bool) {
	wrote := 0
	for _, w := range c.writes {
		for i := 0; i < len(w.bytes); i += api.BlockSize {
			if wrote == n {
				return wrote, false
			}
			copy(m.image[w.place*api.BlockSize+i:], w.bytes[i:i+api.BlockSize])
			wrote++
		}
	}
	return wrote, true
}

// A world is a drum with the journals on it, and the model of both.
type world struct {
	drum     *drum.Drum
	model    model
	armed    int // -1: none
	off      bool
	writes   int
	journals []*journal.Journal
	models   []*mjournal
	log      []string
}

func newWorld(t *testing.T, image []byte) *world {
	t.Helper()
	d, err := drum.From(image)
	if err != nil {
		t.Fatal(err)
	}
	return &world{drum: d, model: model{bytes.Clone(image)}, armed: -1}
}

// spend plays a call by the model, and is its error.
func (w *world) spend(c mcall) error {
	if c.err != nil {
		return c.err
	}
	n, all := w.model.play(c, w.armed)
	w.writes += n
	if w.armed >= 0 {
		w.armed -= n
	}
	if !all {
		w.off = true
		return api.ErrPower
	}
	return nil
}

// begun takes the answer of Format or Open, and is "" or how it differs.
func (w *world) begun(j *journal.Journal, err error, c mcall) string {
	want := api.ErrPower
	if !w.off {
		want = w.spend(c)
	}
	if err != want || (j == nil) != (err != nil) {
		return fmt.Sprintf("%v, %v; want %v", j, err, want)
	}
	if err == nil {
		w.journals = append(w.journals, j)
		w.models = append(w.models, &c.after)
	}
	return ""
}

// changed takes the answer of a journal's call.
func (w *world) changed(i int, err error, call func(mjournal, []byte) mcall, b []byte) string {
	m := w.models[i]
	var want error
	switch {
	case m.dead:
		want = api.ErrState
	case w.off:
		want = api.ErrPower
	default:
		c := call(*m, b)
		if want = w.spend(c); want == nil {
			*m = c.after
		}
	}
	m.dead = m.dead || want == api.ErrPower
	if err != want {
		return fmt.Sprintf("%v; want %v", err, want)
	}
	return ""
}

// differs asks all that can be asked.
func (w *world) differs() string {
	if w.drum.Off() != w.off || w.drum.Writes() != w.writes {
		return fmt.Sprintf("Off %v, Writes %d; want %v, %d", w.drum.Off(), w.drum.Writes(), w.off, w.writes)
	}
	if got := w.drum.Image(); !bytes.Equal(got, w.model.image) {
		for i := range w.model.blocks() {
			if b := got[i*api.BlockSize:][:api.BlockSize]; !bytes.Equal(b, w.model.block(i)) {
				return fmt.Sprintf("block %d is %x; want %x", i, b, w.model.block(i))
			}
		}
	}
	for i, j := range w.journals {
		m := w.models[i]
		if !slices.EqualFunc(j.Records(), m.records, bytes.Equal) {
			return fmt.Sprintf("journal %d: Records %q; want %q", i, j.Records(), m.records)
		}
		if j.Free() != m.free() || j.Epoch() != int(m.head.epoch) || j.Dead() != m.dead {
			return fmt.Sprintf("journal %d: Free %d, Epoch %d, Dead %v; want %d, %d, %v", i, j.Free(), j.Epoch(), j.Dead(), m.free(), m.head.epoch, m.dead)
		}
	}
	return ""
}

func chanceBytes(r *rand.Rand) []byte {
	edges := []int{0, 1, 43, 44, 45, 46, 89, 90, 91, 92, 136, 137, 1999, 2000, 2001, 2500, 70000}
	n := r.Intn(200)
	if r.Intn(4) == 0 {
		n = edges[r.Intn(len(edges))]
	}
	b := make([]byte, n)
	r.Read(b)
	return b
}

// spoil changes a block behind the back of the journals: a bit, a field with a right check, or a copy of another block.
func (w *world) spoil(r *rand.Rand) {
	i := r.Intn(w.model.blocks())
	if r.Intn(3) == 0 {
		i = r.Intn(min(2, w.model.blocks()))
	}
	b := bytes.Clone(w.model.block(i))
	switch r.Intn(4) {
	case 0:
		b[r.Intn(len(b))] ^= 1 << r.Intn(8)
	case 1:
		b[r.Intn(16)] ^= 1 << r.Intn(3)
		b = sealed(b)
	case 2:
		b = bytes.Clone(w.model.block(r.Intn(w.model.blocks())))
	case 3:
		at := []int{1, 5, 9}[r.Intn(3)]
		binary.BigEndian.PutUint32(b[at:], uint32(1<<32-1-r.Intn(2)))
		b = sealed(b)
	}
	if w.off || w.armed >= 0 {
		return
	}
	if w.drum.Write(i, api.Block(b)) != nil {
		panic("no power")
	}
	copy(w.model.block(i), b)
	w.writes++
}

// step is a call by chance, and "" or how it differs from the model's.
func (w *world) step(r *rand.Rand, spoils bool) string {
	k, b := r.Intn(100), chanceBytes(r)
	switch {
	case k < 15:
		w.log = append(w.log, "Open")
		c := w.model.open()
		j, err := journal.Open(w.drum)
		return w.begun(j, err, c)
	case k < 22 || len(w.journals) == 0 && k < 50:
		w.log = append(w.log, fmt.Sprintf("Format(%d)", len(b)))
		c := w.model.format(b)
		j, err := journal.Format(w.drum, b)
		return w.begun(j, err, c)
	case k < 32:
		w.armed = r.Intn(9) - 1
		w.log = append(w.log, fmt.Sprintf("Arm(%d)", w.armed))
		w.drum.Arm(w.armed)
		return ""
	case k < 45:
		w.log = append(w.log, "On")
		w.drum.On()
		w.off, w.armed = false, -1
		return ""
	case k < 50 && spoils:
		w.log = append(w.log, "spoil")
		w.spoil(r)
		return ""
	}
	if len(w.journals) == 0 {
		return ""
	}
	i := len(w.journals) - 1
	if r.Intn(10) == 0 {
		i = r.Intn(len(w.journals))
	}
	if k < 85 {
		w.log = append(w.log, fmt.Sprintf("%d.Append(%d)", i, len(b)))
		return w.changed(i, w.journals[i].Append(b), w.model.add, b)
	}
	w.log = append(w.log, fmt.Sprintf("%d.Compact(%d)", i, len(b)))
	return w.changed(i, w.journals[i].Compact(b), w.model.compact, b)
}

// P7.1: calls by chance on drums of many sizes, sound ones and spoilt ones, several journals on one drum among them, are answered as the model answers them, and leave the same bytes.
func TestManyCalls(t *testing.T) {
	r := rand.New(rand.NewSource(7))
	sizes := []int{1, 2, 3, 9, 10, 11, 12, 13, 20, 21, 40, 100, 200}
	for round := range 1500 {
		blocks := sizes[round%len(sizes)]
		w := newWorld(t, make([]byte, blocks*api.BlockSize))
		for range 60 {
			diff := w.step(r, round%2 == 1)
			if diff == "" {
				diff = w.differs()
			}
			if diff != "" {
				t.Fatalf("%d blocks, %v: %s", blocks, w.log, diff)
			}
			if len(w.journals) > 4 {
				w.journals, w.models = w.journals[1:], w.models[1:]
			}
		}
	}
}
