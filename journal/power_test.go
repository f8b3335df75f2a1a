package journal_test

import (
	"fmt"
	"math/rand"
	"slices"
	"testing"

	"jackfield/api"
	"jackfield/drum"
	"jackfield/journal"
)

// A deed is one call of a script: f Format, o Open, a Append, c Compact, of so many bytes.
type deed struct {
	letter byte
	size   int
}

// A player plays deeds, and knows which records must be there, without looking at the drum.
type player struct {
	drum    *drum.Drum
	journal *journal.Journal
	held    []string // nil: no journal is on the drum
	count   int      // of texts, so that no two are the same
}

func (p *player) text(size int) string {
	p.count++
	b := []byte(fmt.Sprintf("%0*d", max(size, 1), p.count))
	return string(b[len(b)-size:])
}

// after is what is on the drum when a deed is done, if it is done.
func (p *player) after(d deed, text string) []string {
	switch d.letter {
	case 'f', 'c':
		return []string{text}
	case 'a':
		return append(slices.Clone(p.held), text)
	}
	return p.held
}

func (p *player) call(d deed, text string) (err error) {
	switch d.letter {
	case 'f', 'o':
		var j *journal.Journal
		if d.letter == 'f' {
			j, err = journal.Format(p.drum, []byte(text))
		} else {
			j, err = journal.Open(p.drum)
		}
		if err == nil {
			p.journal = j
		}
	case 'a':
		err = p.journal.Append([]byte(text))
	case 'c':
		err = p.journal.Compact([]byte(text))
	}
	return err
}

// play does a deed. If the power fails in it, the drum is opened again, and what is found must be what was there before the deed, or after it.
func (p *player) play(t *testing.T, d deed) {
	t.Helper()
	if p.journal == nil && d.letter != 'f' {
		return
	}
	text := p.text(d.size)
	after := p.after(d, text)
	switch err := p.call(d, text); err {
	case nil:
		p.held = after
	case api.ErrFull:
	case api.ErrPower:
		p.recover(t, d, after)
	default:
		t.Fatalf("%c(%d): %v", d.letter, d.size, err)
	}
	if p.journal != nil {
		wantRecords(t, p.journal, p.held...)
	}
}

// recover lets the power fail again in the first Open, before the one that succeeds.
func (p *player) recover(t *testing.T, d deed, after []string) {
	t.Helper()
	p.drum.On()
	p.drum.Arm(0)
	if _, err := journal.Open(p.drum); p.held != nil && err != api.ErrPower || err == nil {
		t.Fatalf("Open without power after %c(%d): %v", d.letter, d.size, err)
	}
	p.drum.On()
	j, err := journal.Open(p.drum)
	if p.held == nil && err == api.ErrNone {
		return
	}
	if err != nil {
		t.Fatalf("Open after %c(%d): %v", d.letter, d.size, err)
	}
	p.journal = j
	found := []string{}
	for _, b := range j.Records() {
		found = append(found, string(b))
	}
	if p.held == nil || !slices.Equal(found, p.held) {
		if !slices.Equal(found, after) {
			t.Fatalf("after %c(%d) Open finds %q, neither %q nor %q", d.letter, d.size, found, p.held, after)
		}
		p.held = after
	}
}

func newPlayer(t *testing.T, blocks int) *player { return &player{drum: newDrum(t, blocks)} }

// found opens a drum for the last time, so that what was reported is seen to be there.
func (p *player) found(t *testing.T) {
	t.Helper()
	p.drum.On()
	if p.held != nil {
		wantRecords(t, open(t, p.drum), p.held...)
	}
}

// script has each call after each other one, records of one block and of several, and areas that run full.
func script() []deed {
	return []deed{
		{'f', 100}, {'a', 0}, {'a', 100}, {'a', 45}, {'c', 200}, {'a', 44}, {'a', 90}, {'c', 0}, {'c', 138},
		{'o', 0}, {'a', 50}, {'o', 0}, {'o', 0}, {'c', 60}, {'f', 10}, {'a', 300}, {'f', 1}, {'o', 0},
		{'f', 2}, {'f', 3}, {'a', 20}, {'a', 136}, {'a', 1}, {'a', 500}, {'c', 46}, {'a', 100}, {'a', 100},
	}
}

// P7.2: the power fails at each write of a long script, and the script goes on behind it.
func TestFailAnywhere(t *testing.T) {
	for _, blocks := range []int{10, 13, 20, 21, 60} {
		whole := newPlayer(t, blocks)
		for _, d := range script() {
			whole.play(t, d)
		}
		whole.found(t)
		for n := range whole.drum.Writes() + 1 {
			p := newPlayer(t, blocks)
			p.drum.Arm(n)
			for _, d := range script() {
				p.play(t, d)
			}
			p.found(t)
		}
	}
}

// P7.2: the power fails at each write of the first part of a script, and again at each write behind that.
func TestFailTwice(t *testing.T) {
	const blocks = 20
	for first := range 25 {
		for second := range 25 {
			p := newPlayer(t, blocks)
			p.drum.Arm(first)
			failed := false
			for _, d := range []deed{{'f', 30}, {'a', 100}, {'c', 230}, {'a', 20}, {'c', 140}, {'a', 90}, {'a', 90}, {'o', 0}, {'c', 10}, {'a', 90}} {
				p.play(t, d)
				if !failed && p.drum.Writes() >= first {
					failed = true
					p.drum.Arm(second)
				}
			}
			p.found(t)
		}
	}
}

// P7.2, P7.3: deeds by chance, while the power fails again and again: what an Open found is all there is from then on.
//
// Format's snapshots have one block here. By the chapter's words a Format takes the epoch that the next Format or Open takes too, so that the second block on of one that was interrupted may be taken for a part of a later record.
func TestManyFailures(t *testing.T) {
	r := rand.New(rand.NewSource(8))
	sizes := []int{0, 1, 20, 43, 44, 45, 89, 90, 91, 136, 137, 182, 228, 320}
	for round := range 3000 {
		p := newPlayer(t, []int{10, 12, 15, 20, 30, 61}[round%6])
		for range 60 {
			if r.Intn(3) == 0 {
				p.drum.Arm(r.Intn(7))
			}
			d := deed{"aaaaaaaacccof"[r.Intn(13)], sizes[r.Intn(len(sizes))]}
			if d.letter == 'f' {
				d.size = min(d.size, 44)
			}
			p.play(t, d)
		}
		p.found(t)
	}
}

// P7.2: a record of several blocks is there with its last block and not before, and only the call that wrote that returns nil.
func TestLastBlockCounts(t *testing.T) {
	for n := range 5 {
		d := newDrum(t, 20)
		j := format(t, d, "s")
		d.Arm(n)
		err := j.Append([]byte(text(180)))
		if (err == api.ErrPower) != (n < 4) || n == 4 && err != nil {
			t.Fatalf("%d blocks: %v", n, err)
		}
		if j.Dead() != (n < 4) {
			t.Errorf("%d blocks: Dead %v", n, j.Dead())
		}
		d.On()
		if n < 4 {
			wantRecords(t, j, "s")
			wantRecords(t, open(t, d), "s")
		} else {
			wantRecords(t, open(t, d), "s", text(180))
		}
	}
}

// P7.2: a snapshot counts with its head and not before; until then all old records are there.
func TestHeadCounts(t *testing.T) {
	for n := range 7 {
		d := newDrum(t, 20)
		j := format(t, d, "s")
		wantErr(t, "Append", j.Append([]byte("a")), nil)
		d.Arm(n)
		err := j.Compact([]byte(text(228)))
		if n < 6 {
			wantErr(t, "Compact", err, api.ErrPower)
			wantRecords(t, j, "s", "a")
			d.On()
			wantRecords(t, open(t, d), "s", "a")
			continue
		}
		wantErr(t, "Compact", err, nil)
		d.On()
		wantRecords(t, open(t, d), text(228))
	}
	for n := range 7 {
		d := newDrum(t, 20)
		wantErr(t, "Append", format(t, d, "s").Append([]byte("a")), nil)
		d.Arm(n)
		if n < 6 {
			noFormat(t, d, []byte(text(228)), api.ErrPower)
			d.On()
			wantRecords(t, open(t, d), "s", "a")
			continue
		}
		format(t, d, text(228))
		d.On()
		wantRecords(t, open(t, d), text(228))
	}
}

// P7.3: the rest of a record that was interrupted isn't taken for that of another one, which is interrupted at the same place and as long.
func TestRestsStayApart(t *testing.T) {
	for left := 1; left <= 4; left++ {
		for again := 1; again <= 4; again++ {
			d := newDrum(t, 40)
			j := format(t, d, "s")
			d.Arm(left)
			wantErr(t, "Append", j.Append([]byte(text(46*5-2))), api.ErrPower)
			d.On()
			for range 3 {
				j = open(t, d)
				wantRecords(t, j, "s")
				d.Arm(again)
				wantErr(t, "Append", j.Append([]byte(text(46*5-2))), api.ErrPower)
				d.On()
			}
			j = open(t, d)
			wantRecords(t, j, "s")
			wantErr(t, "Append", j.Append([]byte("short")), nil)
			wantRecords(t, open(t, d), "s", "short")
		}
	}
}

// P7.3: the rest of a snapshot that was interrupted isn't taken for that of a later one, nor of a record behind that.
func TestOldSnapshotsStayAway(t *testing.T) {
	for left := 1; left <= 6; left++ {
		d := newDrum(t, 40)
		j := format(t, d, "s")
		d.Arm(left)
		wantErr(t, "Compact", j.Compact([]byte(text(46*6-2))), api.ErrPower)
		d.On()
		j = open(t, d)
		wantRecords(t, j, "s")
		wantErr(t, "Compact", j.Compact([]byte("t")), nil)
		wantRecords(t, open(t, d), "t")
		for n := 1; n < 5; n++ {
			j = open(t, d)
			d.Arm(n)
			wantErr(t, "Append", j.Append([]byte(text(46*5-2))), api.ErrPower)
			d.On()
			wantRecords(t, open(t, d), "t")
		}
	}
}

// P7.3: records that were there before a Compact stay away when their area is current again.
func TestOldRecordsStayAway(t *testing.T) {
	d := newDrum(t, 40)
	j := format(t, d, "s")
	for _, r := range []string{"a", "b", text(100), "c"} {
		wantErr(t, "Append", j.Append([]byte(r)), nil)
	}
	wantErr(t, "Compact", j.Compact([]byte("t")), nil)
	wantRecords(t, open(t, d), "t")
	wantErr(t, "Compact", j.Compact([]byte("u")), nil)
	k := open(t, d)
	wantRecords(t, k, "u")
	wantErr(t, "Append", k.Append([]byte("x")), nil)
	wantRecords(t, open(t, d), "u", "x")
	format(t, d, "v")
	format(t, d, "w")
	wantRecords(t, open(t, d), "w")
}
