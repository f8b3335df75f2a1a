package book_test

import (
	"errors"
	"fmt"
	"math/rand"
	"slices"
	"strings"
	"testing"

	"jackfield/api"
	"jackfield/book"
	"jackfield/drum"
	"jackfield/journal"
	"jackfield/label"
)

// A deed is one call of a script: f Format, o Open, r Reserve, g Release (give back), of a pattern by an owner; a Arm with n, n On.
type deed struct {
	letter         byte
	pattern, owner string
	n              int
}

func (d deed) String() string { return fmt.Sprintf("%c(%s %s %d)", d.letter, d.owner, d.pattern, d.n) }

// A keeper is a drum with a book on it, and the chapter's words a second time: reservations in a row, and the texts of the records that must be on the drum.
type keeper struct {
	drum    *drum.Drum
	book    *book.Book
	held    []api.Reservation // of the book, in order
	dead    bool
	epoch   int      // of the book
	records []string // nil: none are on the drum
	last    int      // the epoch of the drum's head
	armed   int      // -1: none
	off     bool
	writes  int
	log     []deed
}

func newKeeper(t *testing.T, blocks int) *keeper {
	t.Helper()
	return &keeper{drum: newDrum(t, blocks), armed: -1}
}

func blocksFor(s string) int { return (len(s) + 2 + 45) / 46 }

// write is nil if the power lasts for so many blocks.
func (p *keeper) write(blocks int) error {
	if p.off {
		return api.ErrPower
	}
	n := blocks
	if p.armed >= 0 {
		n = min(n, p.armed)
		p.armed -= n
	}
	p.writes += n
	if n < blocks {
		p.off = true
		return api.ErrPower
	}
	return nil
}

// added is the reservations after a deed, or why it is refused.
func added(held []api.Reservation, d deed) ([]api.Reservation, error) {
	if label.Check(d.pattern) != nil || len(d.owner) == 0 || len(d.owner) > 16 {
		return nil, api.ErrName
	}
	i := slices.IndexFunc(held, func(r api.Reservation) bool { return r.Name == d.pattern })
	switch {
	case d.letter == 'r' && i >= 0 && held[i].Owner != d.owner:
		return nil, api.ErrTaken
	case d.letter == 'r' && i >= 0:
		return held, nil
	case d.letter == 'r' && len(held) == 32:
		return nil, api.ErrFull
	case d.letter == 'r':
		out := append(slices.Clone(held), api.Reservation{Name: d.pattern, Owner: d.owner})
		slices.SortFunc(out, func(a, b api.Reservation) int { return strings.Compare(a.Name, b.Name) })
		return out, nil
	case i < 0:
		return nil, api.ErrNone
	case held[i].Owner != d.owner:
		return nil, api.ErrOwner
	}
	return slices.Delete(slices.Clone(held), i, i+1), nil
}

// change is a call of the book by the model, and its error.
func (p *keeper) change(d deed) error {
	if p.dead {
		return api.ErrState
	}
	after, err := added(p.held, d)
	if err != nil || slices.Equal(after, p.held) {
		return err
	}
	record := deedText(map[byte]byte{'r': 1, 'g': 2}[d.letter], d.pattern, d.owner)
	used := 0
	for _, r := range p.records {
		used += blocksFor(r)
	}
	half := (p.drum.Blocks() - 2) / 2
	next, blocks := append(slices.Clone(p.records), record), blocksFor(record)
	if used+blocks > half && !p.off {
		var words []string
		for _, r := range after {
			words = append(words, r.Name, r.Owner)
		}
		next = []string{listText(words...)}
		if len(next[0]) > 2000 || blocksFor(next[0]) > half {
			return api.ErrFull
		}
		blocks = blocksFor(next[0]) + 1
	}
	if err := p.write(blocks); err != nil {
		p.dead = true
		return err
	}
	p.held, p.records = after, next
	return nil
}

// begin is Format or Open by the model.
func (p *keeper) begin(d deed) error {
	if d.letter == 'o' && p.records == nil && !p.off {
		return api.ErrNone
	}
	if err := p.write(map[byte]int{'f': 2, 'o': 1}[d.letter]); err != nil {
		return err
	}
	if d.letter == 'f' {
		p.records = []string{"\x00"}
	}
	p.last++
	p.held, p.dead, p.epoch = p.stored(), false, p.last
	return nil
}

// stored is the reservations of the records.
func (p *keeper) stored() []api.Reservation {
	var held []api.Reservation
	for i, r := range p.records {
		texts, ok := modelTexts([]byte(r[1:]))
		var err error
		if i == 0 {
			held = pairs(texts...)
		} else {
			held, err = added(held, deed{letter: " rg"[r[0]], pattern: texts[0], owner: texts[1]})
		}
		if !ok || err != nil {
			panic(r)
		}
	}
	return held
}

// play does a deed by the book and by the model.
func (p *keeper) play(t *testing.T, d deed) {
	t.Helper()
	p.log = append(p.log, d)
	var got, want error
	switch d.letter {
	case 'a':
		p.drum.Arm(d.n)
		p.armed = d.n
	case 'n':
		p.drum.On()
		p.off, p.armed = false, -1
	case 'f', 'o':
		got, want = p.start(d)
	case 'r', 'g':
		if p.book == nil {
			return
		}
		want = p.change(d)
		if d.letter == 'r' {
			got = p.book.Reserve(d.owner, d.pattern)
		} else {
			got = p.book.Release(d.owner, d.pattern)
		}
	}
	if got != want {
		t.Fatalf("%v: %v; want %v", p.log, got, want)
	}
	p.compare(t)
}

func (p *keeper) start(d deed) (got, want error) {
	call := book.Open
	if d.letter == 'f' {
		call = book.Format
	}
	k, got := call(p.drum)
	if (k == nil) != (got != nil) {
		return errors.New("a book beside an error, or none without one"), nil
	}
	if k != nil {
		p.book = k
	}
	return got, p.begin(d)
}

// compare asks the book and the drum all that can be asked.
func (p *keeper) compare(t *testing.T) {
	t.Helper()
	if p.drum.Off() != p.off || p.drum.Writes() != p.writes {
		t.Fatalf("%v: Off %v, Writes %d; want %v, %d", p.log, p.drum.Off(), p.drum.Writes(), p.off, p.writes)
	}
	if p.book == nil {
		return
	}
	if !slices.Equal(p.book.List(), p.held) || p.book.Dead() != p.dead || p.book.Epoch() != p.epoch {
		t.Fatalf("%v: List %q, Dead %v, Epoch %d; want %q, %v, %d", p.log, p.book.List(), p.book.Dead(), p.book.Epoch(), p.held, p.dead, p.epoch)
	}
	d := p.log[len(p.log)-1]
	owner := ""
	var patterns []string
	for _, r := range p.held {
		if r.Name == d.pattern {
			owner = r.Owner
		}
		patterns = append(patterns, r.Name)
	}
	if got, ok := p.book.Owner(d.pattern); got != owner || ok != (owner != "") {
		t.Fatalf("%v: Owner %q, %v; want %q", p.log, got, ok, owner)
	}
	name := strings.ReplaceAll(d.pattern, "*", "x")
	got, ok := p.book.Match(name)
	if i := label.Best(patterns, name); ok != (i >= 0) || ok && got != p.held[i] || !ok && got != (api.Reservation{}) {
		t.Fatalf("%v: Match(%q) = %q, %v", p.log, name, got, ok)
	}
}

// found opens a copy of the drum as a journal and as a book.
func (p *keeper) found(t *testing.T) {
	t.Helper()
	image := p.drum.Image()
	j, err := journal.Open(drumOf(t, image))
	if p.records == nil {
		if noOpen(t, drumOf(t, image), api.ErrNone); err != api.ErrNone {
			t.Fatalf("%v: %v", p.log, err)
		}
		return
	}
	if err != nil || !slices.EqualFunc(j.Records(), p.records, func(b []byte, s string) bool { return string(b) == s }) {
		t.Fatalf("%v: %v; records %q; want %q", p.log, err, j.Records(), p.records)
	}
	wantList(t, open(t, drumOf(t, image)), p.stored())
}

// chance is a call by chance; wide has more patterns than may be held, and long ones.
func chance(r *rand.Rand, wide bool) deed {
	d := deed{letter: "rrrrrrrrrrrggggggggonnaf"[r.Intn(24)], owner: []string{"ann", "bob", who}[r.Intn(3)]}
	d.pattern = []string{"a", "*.a", "b.a", "*.b.a", "a.b.a", "c", "a-b"}[r.Intn(7)]
	if wide {
		d.owner = []string{who, who, who, "b"}[r.Intn(4)]
		d.pattern = long(r.Intn(40))
		if r.Intn(3) == 0 {
			d.pattern = fmt.Sprintf("*.n%d", r.Intn(40))
		}
		if d.letter == 'f' && r.Intn(20) > 0 || d.letter == 'g' && r.Intn(2) == 0 {
			d.letter = 'r'
		}
	}
	switch r.Intn(60) {
	case 0:
		d.pattern = []string{"", "*", "-", "A", "a..b", long(1) + "x"}[r.Intn(6)]
	case 1:
		d.owner = []string{"", who + "x", strings.Repeat("x", 300)}[r.Intn(3)]
	}
	if d.letter == 'a' {
		d.n = r.Intn(12) - 1
	}
	return d
}

// P9.1, P9.2: calls by chance on drums of many sizes, while the power fails again and again, are answered as the model answers them, and leave its records.
func TestManyCalls(t *testing.T) {
	r := rand.New(rand.NewSource(9))
	sizes := []int{10, 11, 12, 14, 20, 33, 60, 104, 124, 200}
	for round := range 1200 {
		p := newKeeper(t, sizes[round%len(sizes)])
		p.play(t, deed{letter: 'f'})
		for i := range 120 {
			d := chance(r, round%3 == 0)
			p.play(t, d)
			if i%4 == 0 || d.letter == 'o' || d.letter == 'f' {
				p.found(t)
			}
			if p.dead && r.Intn(4) == 0 {
				p.play(t, deed{letter: 'n'})
				p.play(t, deed{letter: 'o'})
			}
		}
		p.found(t)
	}
}

// P9.1: every order of five calls out of a set of eight, on the smallest drum.
func TestEveryOrder(t *testing.T) {
	set := []deed{{'r', "a", "ann", 0}, {'r', "a", "bob", 0}, {'g', "a", "ann", 0}, {'g', "a", "bob", 0},
		{'r', "*.a", "bob", 0}, {'o', "", "", 0}, {'a', "", "", 1}, {'n', "", "", 0}}
	const calls = 5
	for n := range 1 << (3 * calls) {
		p := newKeeper(t, 10)
		p.play(t, deed{letter: 'f'})
		for i := range calls {
			p.play(t, set[n>>(3*i)&7])
		}
		if n%7 == 0 {
			p.found(t)
		}
	}
}
