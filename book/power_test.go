package book_test

import (
	"slices"
	"testing"

	"jackfield/api"
	"jackfield/book"
	"jackfield/drum"
)

// A witness knows of a drum only what the book's answers said.
type witness struct {
	drum *drum.Drum
	book *book.Book
	told []api.Reservation // what must be there
}

// do does a deed. If the power fails in it, the book is opened again, and must be that before the deed, or after it.
func (w *witness) do(t *testing.T, d deed) {
	t.Helper()
	before := w.told
	after := []api.Reservation(nil)
	err := error(nil)
	switch d.letter {
	case 'f', 'o':
		call := book.Format
		if d.letter == 'o' {
			call, after = book.Open, before
		}
		var k *book.Book
		if k, err = call(w.drum); err == nil {
			w.book = k
		}
	default:
		var refused error
		if after, refused = added(before, d); refused != nil {
			after = before
		}
		call := w.book.Reserve
		if d.letter == 'g' {
			call = w.book.Release
		}
		if err = call(d.owner, d.pattern); err == api.ErrFull {
			after = before
		} else if err != api.ErrPower && err != refused {
			t.Fatalf("%v: %v; want %v", d, err, refused)
		}
	}
	w.told = after
	if err == api.ErrPower {
		w.reopen(t, d, before, after)
	}
	wantList(t, w.book, w.told)
}

func (w *witness) reopen(t *testing.T, d deed, before, after []api.Reservation) {
	t.Helper()
	if d.letter != 'f' && d.letter != 'o' {
		wantList(t, w.book, before)
		wantErr(t, "a dead book", w.book.Reserve(d.owner, d.pattern), api.ErrState)
	}
	w.drum.On()
	w.drum.Arm(0)
	noOpen(t, w.drum, api.ErrPower)
	w.drum.On()
	w.book = open(t, w.drum)
	w.told = w.book.List()
	if !slices.Equal(w.told, before) && !slices.Equal(w.told, after) {
		t.Fatalf("in %v the power failed, and there is %q; it was %q and would be %q", d, w.told, before, after)
	}
}

func newWitness(t *testing.T, blocks int) *witness {
	t.Helper()
	d := newDrum(t, blocks)
	return &witness{drum: d, book: format(t, d)}
}

// script has records of one block and of two, owners that take over from one another, and areas that run full again and again.
func script() []deed {
	var list []deed
	do := func(letter byte, pattern, owner string) {
		list = append(list, deed{letter: letter, pattern: pattern, owner: owner})
	}
	for _, pattern := range []string{"b", "*.b", "a.b", long(1)} {
		do('r', pattern, "ann")
		do('r', pattern, "ann")
		do('r', pattern, "bob")
		do('g', pattern, "bob")
	}
	do('o', "", "")
	do('g', "b", "ann")
	do('r', "b", "bob")
	do('g', long(1), "ann")
	do('r', long(2), who)
	do('r', long(3), who)
	do('f', "", "")
	do('r', "b", "cy")
	do('r', "c", "cy")
	do('g', "b", "cy")
	do('r', "b", "dan")
	do('o', "", "")
	do('g', "c", "cy")
	do('r', long(1), "dan")
	do('g', "b", "dan")
	return list
}

// P9.2: the power fails at each write of a script, which goes on behind it.
func TestFailAnywhere(t *testing.T) {
	for _, blocks := range []int{10, 12, 14, 20, 60} {
		whole := newWitness(t, blocks)
		for _, d := range script() {
			whole.do(t, d)
		}
		for n := range whole.drum.Writes() + 1 {
			w := newWitness(t, blocks)
			w.drum.Arm(n)
			for _, d := range script() {
				w.do(t, d)
			}
			w.drum.On()
			wantList(t, open(t, w.drum), w.told)
		}
	}
}

// P9.2: the power fails at each write of a script, and again at each of the next writes.
func TestFailTwice(t *testing.T) {
	for _, blocks := range []int{10, 14} {
		for first := range 30 {
			for second := range 12 {
				w := newWitness(t, blocks)
				w.drum.Arm(first)
				failed := false
				for _, d := range script() {
					was := w.book
					w.do(t, d)
					if !failed && w.book != was && d.letter != 'f' && d.letter != 'o' {
						failed = true
						w.drum.Arm(second)
					}
				}
				w.drum.On()
				wantList(t, open(t, w.drum), w.told)
			}
		}
	}
}

// P9.2: the power fails at each write of one call, whose effect is there with the last of them and not before.
func TestLastWriteCounts(t *testing.T) {
	for _, c := range []struct {
		blocks, writes int
		deed           deed
		after          []api.Reservation
	}{
		{20, 1, deed{letter: 'r', pattern: "d", owner: "dan"}, pairs("a", "ann", "b", "bob", "c", "cy", "d", "dan")},
		{20, 2, deed{letter: 'r', pattern: long(1), owner: who}, pairs("a", "ann", "b", "bob", "c", "cy", long(1), who)},
		{20, 1, deed{letter: 'g', pattern: "b", owner: "bob"}, pairs("a", "ann", "c", "cy")},
		{10, 2, deed{letter: 'r', pattern: "d", owner: "dan"}, pairs("a", "ann", "b", "bob", "c", "cy", "d", "dan")},
		{10, 4, deed{letter: 'r', pattern: long(1), owner: who}, pairs("a", "ann", "b", "bob", "c", "cy", long(1), who)},
		{10, 2, deed{letter: 'g', pattern: "b", owner: "bob"}, pairs("a", "ann", "c", "cy")},
		{20, 2, deed{letter: 'f'}, nil},
		{10, 2, deed{letter: 'f'}, nil},
		{20, 1, deed{letter: 'o'}, pairs("a", "ann", "b", "bob", "c", "cy")},
	} {
		before := pairs("a", "ann", "b", "bob", "c", "cy")
		for n := range c.writes + 1 {
			w := newWitness(t, c.blocks)
			for _, r := range before {
				w.do(t, deed{letter: 'r', pattern: r.Name, owner: r.Owner})
			}
			writes := w.drum.Writes()
			w.drum.Arm(n)
			w.do(t, c.deed)
			want := before
			if n == c.writes {
				want = c.after
				if w.drum.Off() || w.drum.Writes() != writes+n {
					t.Fatalf("%v on %d blocks writes more than %d", c.deed, c.blocks, n)
				}
			}
			w.drum.On()
			wantList(t, open(t, w.drum), want)
		}
	}
}

// P9.2: what a call that returned nil has done is there for every later Open, whatever is interrupted in between.
func TestReportedStays(t *testing.T) {
	for n := range 8 {
		d := newDrum(t, 10)
		k := format(t, d)
		reserve(t, k, "a", "ann", "b", "bob")
		wantErr(t, "Release", k.Release("ann", "a"), nil)
		for range 20 {
			d.Arm(n)
			for d.Off() == false && n < 7 {
				err := k.Reserve("cy", "x")
				if err == nil {
					err = k.Release("cy", "x")
				}
				if err != nil && err != api.ErrPower {
					t.Fatal(err)
				}
			}
			d.On()
			k = open(t, d)
			wantMatch(t, k, "b", "b", "bob")
			wantMatch(t, k, "a", "", "")
			if owner, ok := k.Owner("x"); ok && owner != "cy" {
				t.Fatal(owner)
			}
		}
	}
}
