package journal_test

import (
	"bytes"
	"encoding/hex"
	"slices"
	"testing"

	"jackfield/api"
	"jackfield/drum"
	"jackfield/journal"
)

func newDrum(t *testing.T, blocks int) *drum.Drum {
	t.Helper()
	d, err := drum.New(blocks)
	if err != nil {
		t.Fatal(err)
	}
	return d
}

func drumOf(t *testing.T, image []byte) *drum.Drum {
	t.Helper()
	d, err := drum.From(image)
	if err != nil {
		t.Fatal(err)
	}
	return d
}

func format(t *testing.T, d *drum.Drum, snapshot string) *journal.Journal {
	t.Helper()
	j, err := journal.Format(d, []byte(snapshot))
	if err != nil || j == nil {
		t.Fatalf("Format = %v, %v", j, err)
	}
	return j
}

func open(t *testing.T, d *drum.Drum) *journal.Journal {
	t.Helper()
	j, err := journal.Open(d)
	if err != nil || j == nil {
		t.Fatalf("Open = %v, %v", j, err)
	}
	return j
}

func wantErr(t *testing.T, what string, got, want error) {
	t.Helper()
	if got != want {
		t.Fatalf("%s: %v, want %v", what, got, want)
	}
}

func noFormat(t *testing.T, d *drum.Drum, snapshot []byte, want error) {
	t.Helper()
	if j, err := journal.Format(d, snapshot); j != nil || err != want {
		t.Fatalf("Format of %d bytes = %v, %v; want %v", len(snapshot), j, err, want)
	}
}

func noOpen(t *testing.T, d *drum.Drum, want error) {
	t.Helper()
	if j, err := journal.Open(d); j != nil || err != want {
		t.Fatalf("Open = %v, %v; want %v", j, err, want)
	}
}

func wantRecords(t *testing.T, j *journal.Journal, want ...string) {
	t.Helper()
	got := j.Records()
	if !slices.EqualFunc(got, want, func(b []byte, s string) bool { return string(b) == s }) {
		t.Fatalf("Records = %.60q; want %.60q", got, want)
	}
}

// text is n bytes that differ from those of other lengths and from their neighbours.
func text(n int) string {
	b := make([]byte, n)
	for i := range b {
		b[i] = byte(i*11 + n*3 + i>>8)
	}
	return string(b)
}

// written is which blocks differ between two images.
func written(before, after []byte) (places []int) {
	for i := 0; i < len(before); i += api.BlockSize {
		if !bytes.Equal(before[i:i+api.BlockSize], after[i:i+api.BlockSize]) {
			places = append(places, i/api.BlockSize)
		}
	}
	return places
}

func wantWritten(t *testing.T, d *drum.Drum, before []byte, want ...int) {
	t.Helper()
	slices.Sort(want)
	if got := written(before, d.Image()); !slices.Equal(got, want) {
		t.Fatalf("blocks %v were written; want %v", got, want)
	}
}

func fullIf(full bool) error {
	if full {
		return api.ErrFull
	}
	return nil
}

// P7.1: the chapter's examples.
func TestExamples(t *testing.T) {
	d := newDrum(t, 20)
	before := d.Image()
	j := format(t, d, "s")
	wantWritten(t, d, before, 2, 0)
	if j.Free() != 8*46-2 {
		t.Errorf("Free = %d of areas of 9 blocks", j.Free())
	}
	before = d.Image()
	wantErr(t, "Append", j.Append([]byte(text(100))), nil)
	wantWritten(t, d, before, 3, 4, 5)
	before = d.Image()
	k := open(t, d)
	wantWritten(t, d, before, 1)
	if d.Writes() != 6 || j.Epoch() != 1 || k.Epoch() != 2 || k.Free() != 5*46-2 || k.Dead() {
		t.Errorf("Writes %d, Epochs %d, %d, Free %d, Dead %v", d.Writes(), j.Epoch(), k.Epoch(), k.Free(), k.Dead())
	}
	wantRecords(t, k, "s", text(100))
}

// P7.1: the blocks, byte by byte, their checks by the library; one was worked out by another program.
func TestBlockBytes(t *testing.T) {
	d := newDrum(t, 12)
	j := format(t, d, "s")
	wantErr(t, "Append", j.Append(bytes.Repeat([]byte{0xee}, 45)), nil)
	open(t, d)
	wantErr(t, "Compact", j.Compact(nil), nil)
	zeros := func(n int) string { return hex.EncodeToString(make([]byte, n)) }
	full := hex.EncodeToString(bytes.Repeat([]byte{0xee}, 44))
	for place, covered := range map[int]string{
		1: "03" + "00000002" + "00000002" + "00000001" + "01" + "01" + zeros(45),
		2: "01" + "00000001" + "00000001" + "00000000" + "03" + "000173" + zeros(43),
		3: "01" + "00000001" + "00000001" + "00000001" + "2e" + "002d" + full,
		4: "02" + "00000001" + "00000001" + "00000002" + "01" + "ee" + zeros(45),
		7: "01" + "00000002" + "00000001" + "00000000" + "02" + "0000" + zeros(44),
	} {
		b, err := hex.DecodeString(covered)
		if err != nil {
			t.Fatal(err)
		}
		got, err := d.Read(place)
		if err != nil || !bytes.Equal(got[:], sealed(b)) {
			t.Errorf("block %d is %x; want %x", place, got, sealed(b))
		}
	}
	got, err := d.Read(2)
	if err != nil || hex.EncodeToString(got[60:]) != "6b8a7dc6" {
		t.Errorf("the check of block 2 is %x", got[60:])
	}
}

// P7.1: records of every length, as snapshots and as further ones, come back, in as many blocks as the chapter says.
func TestEveryLength(t *testing.T) {
	for n := range journal.MaxRecord + 1 {
		d := newDrum(t, 2+2*2*44)
		need := (n + 2 + 45) / 46
		j := format(t, d, text(n))
		if d.Writes() != need+1 {
			t.Fatalf("Format of %d bytes writes %d blocks", n, d.Writes())
		}
		wantErr(t, "Append", j.Append([]byte(text(n))), nil)
		if d.Writes() != 2*need+1 {
			t.Fatalf("Append of %d bytes writes %d blocks", n, d.Writes()-need-1)
		}
		wantRecords(t, j, text(n), text(n))
		k := open(t, d)
		wantRecords(t, k, text(n), text(n))
		wantErr(t, "Compact", k.Compact([]byte(text(n))), nil)
		if d.Writes() != 3*need+3 {
			t.Fatalf("Compact to %d bytes writes %d blocks", n, d.Writes()-2*need-2)
		}
		wantRecords(t, open(t, d), text(n))
	}
}

// P7.1: areas that are filled by records of one length: Free is the greatest length that fits, up to the last block, and the next greater one is refused.
func TestFree(t *testing.T) {
	for blocks := 10; blocks <= 140; blocks++ {
		half := (blocks - 2) / 2
		for _, n := range []int{0, 44, 45, 300} {
			d := newDrum(t, blocks)
			j := format(t, d, "")
			used := 1
			for {
				free := max(-1, min(46*(half-used)-2, 2000)) // no block would hold -2
				if j.Free() != free {
					t.Fatalf("%d blocks, %d used: Free %d, want %d", blocks, used, j.Free(), free)
				}
				image := d.Image()
				if free < 2000 {
					wantErr(t, "Append of too much", j.Append(make([]byte, free+1)), api.ErrFull)
				} else {
					wantErr(t, "Append of too much", j.Append(make([]byte, 2001)), api.ErrLong)
				}
				wantWritten(t, d, image)
				if n > free {
					break
				}
				wantErr(t, "Append", j.Append([]byte(text(n))), nil)
				used += (n + 47) / 46
			}
			if free := j.Free(); free >= 0 {
				wantErr(t, "Append of the rest", j.Append(make([]byte, free)), nil)
			}
			wantErr(t, "Append", j.Append(nil), fullIf(j.Free() == -1))
			if got, want := open(t, d).Records(), j.Records(); !slices.EqualFunc(got, want, bytes.Equal) {
				t.Fatalf("%d blocks: Open finds %d records of %d", blocks, len(got), len(want))
			}
		}
	}
}

// P7.1: a snapshot that fills an area, and one that is too great for it.
func TestGreatestSnapshot(t *testing.T) {
	for blocks := 10; blocks <= 100; blocks++ {
		most := min(46*((blocks-2)/2)-2, 2000)
		tooMuch, want := make([]byte, most+1), api.ErrFull
		if most == 2000 {
			want = api.ErrLong
		}
		d := newDrum(t, blocks)
		noFormat(t, d, tooMuch, want)
		if d.Writes() != 0 {
			t.Fatalf("%d blocks: a refused Format writes", blocks)
		}
		j := format(t, d, text(most))
		writes := d.Writes()
		wantErr(t, "Compact", j.Compact(tooMuch), want)
		noFormat(t, d, tooMuch, want)
		if d.Writes() != writes || j.Dead() {
			t.Fatalf("%d blocks: a refused Compact writes", blocks)
		}
		wantErr(t, "Compact", j.Compact([]byte(text(most))), nil)
		wantRecords(t, open(t, d), text(most))
	}
}

// P7.1: the greatest drum, with an area full of the shortest records.
func TestGreatestDrum(t *testing.T) {
	d := newDrum(t, api.MaxBlocks)
	j := format(t, d, "s")
	for i := range 2046 {
		wantErr(t, "Append", j.Append([]byte{byte(i >> 8), byte(i)}), nil)
	}
	wantErr(t, "Append", j.Append(nil), api.ErrFull)
	got := open(t, d).Records()
	if len(got) != 2047 || j.Free() != -1 {
		t.Fatalf("%d records, Free %d", len(got), j.Free())
	}
	for i, b := range got[1:] {
		if !bytes.Equal(b, []byte{byte(i >> 8), byte(i)}) {
			t.Fatalf("record %d is %x", i, b)
		}
	}
}

// P7.1: areas and heads change places with each Format and Compact, heads with each Open; what a journal has is its newest record alone.
func TestTurns(t *testing.T) {
	d := newDrum(t, 21)
	var j *journal.Journal
	epoch := 0
	for i, turn := range "fccoocfofcooof" {
		before, snapshot := d.Image(), text(60+i)
		want := []int{2, 3, 0}
		m := model{before}
		h, ok := m.head()
		if ok {
			want = []int{2 + 9*(1-h.area), 3 + 9*(1-h.area), 1 - h.place}
		}
		switch turn {
		case 'f':
			j = format(t, d, snapshot)
			epoch++
		case 'c':
			wantErr(t, "Compact", j.Compact([]byte(snapshot)), nil)
		case 'o':
			j = open(t, d)
			epoch++
			want = want[2:]
		}
		wantWritten(t, d, before, want...)
		after, _ := model{d.Image()}.head()
		if int(after.serial) != i+1 || int(after.epoch) != epoch || j.Epoch() != epoch || turn != 'o' && after.gen != h.gen+1 || turn == 'o' && after.gen != h.gen {
			t.Fatalf("turn %d: head %+v, Epoch %d; want epoch %d", i, after, j.Epoch(), epoch)
		}
		if turn != 'o' {
			wantRecords(t, j, snapshot)
		}
	}
}

// P7.1: nothing to open, on empty drums and on drums of other bytes; nothing is written then.
func TestNone(t *testing.T) {
	for blocks := 10; blocks < 30; blocks++ {
		for _, fill := range []byte{0, 1, 3, 0xff} {
			d := drumOf(t, bytes.Repeat([]byte{fill}, blocks*api.BlockSize))
			noOpen(t, d, api.ErrNone)
			if d.Writes() != 0 {
				t.Fatal("Open writes without a journal")
			}
		}
	}
}

// P7.1: drums of fewer than 10 blocks.
func TestSmallDrums(t *testing.T) {
	for blocks := 1; blocks < 10; blocks++ {
		d := newDrum(t, blocks)
		noOpen(t, d, api.ErrRange)
		noFormat(t, d, nil, api.ErrRange)
		noFormat(t, d, make([]byte, 2001), api.ErrRange)
		// No write is tried, so the power lasts.
		d.Arm(0)
		noFormat(t, d, nil, api.ErrRange)
		noOpen(t, d, api.ErrRange)
		if d.Off() || d.Writes() != 0 {
			t.Fatalf("%d blocks: a refused call writes", blocks)
		}
		off(d)
		noFormat(t, d, make([]byte, 2001), api.ErrPower)
		noOpen(t, d, api.ErrPower)
	}
	format(t, newDrum(t, 10), text(4*46-2))
}

// off takes a drum's power.
func off(d *drum.Drum) {
	d.Arm(0)
	d.Write(0, api.Block{})
}

// P7.1: ErrPower is named ahead of all but ErrState, and a journal that returned it is dead for good; what it held is still returned.
func TestPowerFirst(t *testing.T) {
	for _, n := range []int{0, 1, 400, 2000, 2001, 100000} {
		d := newDrum(t, 12)
		j, k := format(t, d, "s"), open(t, d)
		image := d.Image()
		off(d)
		noFormat(t, d, make([]byte, n), api.ErrPower)
		noOpen(t, d, api.ErrPower)
		if j.Dead() || k.Dead() {
			t.Fatal("a journal is dead without a call of it")
		}
		wantErr(t, "Append", j.Append(make([]byte, n)), api.ErrPower)
		wantErr(t, "Compact", k.Compact(make([]byte, n)), api.ErrPower)
		for range 2 {
			for _, x := range []*journal.Journal{j, k} {
				if !x.Dead() || x.Free() != 4*46-2 {
					t.Fatalf("Dead %v, Free %d", x.Dead(), x.Free())
				}
				wantRecords(t, x, "s")
				wantErr(t, "Append", x.Append(nil), api.ErrState)
				wantErr(t, "Append", x.Append(make([]byte, n)), api.ErrState)
				wantErr(t, "Compact", x.Compact(make([]byte, n)), api.ErrState)
			}
			d.On()
		}
		wantWritten(t, d, image)
		wantRecords(t, open(t, d), "s")
	}
}

// P7.1: power that came back before a journal called for it has done it no harm.
func TestPowerBetweenCalls(t *testing.T) {
	d := newDrum(t, 12)
	j := format(t, d, "s")
	off(d)
	d.On()
	wantErr(t, "Append", j.Append([]byte("a")), nil)
	wantErr(t, "Compact", j.Compact([]byte("b")), nil)
	wantRecords(t, open(t, d), "b")
}

// P7.1: calls that are refused write nothing, so that power that is about to fail lasts, and the journal lives.
func TestRefusalsWriteNothing(t *testing.T) {
	d := newDrum(t, 12)
	j := format(t, d, "s")
	image := d.Image()
	d.Arm(0)
	wantErr(t, "Append", j.Append(make([]byte, 2001)), api.ErrLong)
	wantErr(t, "Append", j.Append(make([]byte, 200)), api.ErrFull)
	wantErr(t, "Compact", j.Compact(make([]byte, 2001)), api.ErrLong)
	wantErr(t, "Compact", j.Compact(make([]byte, 400)), api.ErrFull)
	noFormat(t, d, make([]byte, 2001), api.ErrLong)
	noFormat(t, d, make([]byte, 400), api.ErrFull)
	if d.Off() || j.Dead() {
		t.Fatal("a refused call writes")
	}
	wantWritten(t, d, image)
	wantErr(t, "Append", j.Append(nil), api.ErrPower)
}

// laid is a drum of 12 blocks with a head of these numbers in block 0, and the snapshot "s" of its generation and epoch.
func laid(t *testing.T, h mhead) *drum.Drum {
	t.Helper()
	image := make([]byte, 12*api.BlockSize)
	copy(image[h.place*api.BlockSize:], h.bytes())
	copy(image[(2+5*h.area)*api.BlockSize:], recordBytes(h.gen, h.epoch, 0, []byte("s")))
	return drumOf(t, image)
}

// P7.1: numbers at the end of their range: a call that would make one greater is refused, and no other.
func TestGreatestNumbers(t *testing.T) {
	const last = 1<<32 - 1
	for at := range 8 {
		for _, below := range []uint32{0, 1, 2} {
			h := mhead{serial: 5, gen: 5, epoch: 5}
			s, g, e := at&1 > 0, at&2 > 0, at&4 > 0
			for i, p := range []*uint32{&h.serial, &h.gen, &h.epoch} {
				if at>>i&1 > 0 {
					*p = last - below
				}
			}
			d := laid(t, h)
			_, err := journal.Format(d, nil)
			wantErr(t, "Format", err, fullIf(below == 0 && at > 0))
			d = laid(t, h)
			j, err := journal.Open(d)
			wantErr(t, "Open", err, fullIf(below == 0 && (s || e)))
			if err != nil {
				if d.Writes() > 0 {
					t.Fatal("a refused Open writes")
				}
				continue
			}
			if j.Epoch() != int(h.epoch)+1 {
				t.Fatalf("Epoch %d after %d", j.Epoch(), h.epoch)
			}
			wantErr(t, "Append", j.Append([]byte("a")), nil)
			image := d.Image()
			err = j.Compact([]byte("b"))
			// Open has taken a serial already, and Compact takes no epoch.
			wantErr(t, "Compact", err, fullIf(below == 1 && s || below == 0 && g))
			if err != nil {
				wantWritten(t, d, image)
				wantRecords(t, j, "s", "a")
			}
			wantErr(t, "Append", j.Append([]byte("c")), nil)
		}
	}
}

// P7.1: ErrLong and ErrNone are named ahead of ErrFull.
func TestErrorOrder(t *testing.T) {
	h := mhead{serial: 1<<32 - 1, gen: 1<<32 - 1, epoch: 1<<32 - 1}
	d := laid(t, h)
	noFormat(t, d, make([]byte, 2001), api.ErrLong)
	noFormat(t, d, make([]byte, 2000), api.ErrFull)
	noOpen(t, d, api.ErrFull)
	d.Write(2, api.Block{})
	noOpen(t, d, api.ErrNone)
	h.epoch, h.serial = 7, 7
	j := open(t, laid(t, h))
	wantErr(t, "Compact", j.Compact(make([]byte, 2001)), api.ErrLong)
	wantErr(t, "Compact", j.Compact(nil), api.ErrFull)
}

// P7.1: which of two heads is the current one.
func TestTwoHeads(t *testing.T) {
	wrong := mhead{place: 1, serial: 1 << 31, gen: 4, epoch: 9, area: 1}
	for _, c := range []struct {
		name       string
		zero, one  []byte
		want       string
		place      int
		wantSerial uint32
	}{
		{"the first is greater", mhead{0, 8, 3, 2, 0}.bytes(), mhead{1, 7, 4, 9, 1}.bytes(), "zero", 1, 9},
		{"the second is greater", mhead{0, 7, 3, 2, 0}.bytes(), mhead{1, 8, 4, 9, 1}.bytes(), "one", 0, 9},
		{"equal", mhead{0, 7, 3, 2, 0}.bytes(), mhead{1, 7, 4, 9, 1}.bytes(), "zero", 1, 8},
		{"equal, 0", mhead{0, 0, 3, 2, 0}.bytes(), mhead{1, 0, 4, 9, 1}.bytes(), "zero", 1, 1},
		{"great ones", mhead{0, 1<<31 - 1, 3, 2, 0}.bytes(), wrong.bytes(), "one", 0, 1<<31 + 1},
		{"the second is none", mhead{0, 7, 3, 2, 0}.bytes(), make([]byte, 64), "zero", 1, 8},
		{"the first is none", make([]byte, 64), mhead{1, 0, 4, 9, 1}.bytes(), "one", 0, 1},
		{"the second has another kind", mhead{0, 7, 3, 2, 0}.bytes(), raw(1, 8, 4, 9, 1, []byte{1}), "zero", 1, 8},
		{"the second has no area", mhead{0, 7, 3, 2, 0}.bytes(), raw(3, 8, 4, 9, 0, nil), "zero", 1, 8},
		{"the second has area 2", mhead{0, 7, 3, 2, 0}.bytes(), raw(3, 8, 4, 9, 1, []byte{2}), "zero", 1, 8},
		{"the second has two areas", mhead{0, 7, 3, 2, 0}.bytes(), raw(3, 8, 4, 9, 2, []byte{1, 0}), "zero", 1, 8},
		{"the second has bytes behind it", mhead{0, 7, 3, 2, 0}.bytes(), raw(3, 8, 4, 9, 1, []byte{1, 1}), "zero", 1, 8},
		{"the second has a great count", mhead{0, 7, 3, 2, 0}.bytes(), raw(3, 8, 4, 9, 255, []byte{1}), "zero", 1, 8},
	} {
		image := make([]byte, 12*api.BlockSize)
		copy(image, append(c.zero, c.one...))
		copy(image[2*api.BlockSize:], recordBytes(3, 2, 0, []byte("zero")))
		copy(image[7*api.BlockSize:], recordBytes(4, 9, 0, []byte("one")))
		d := drumOf(t, image)
		wantRecords(t, open(t, d), c.want)
		wantWritten(t, d, image, c.place)
		if h, _ := (model{d.Image()}).head(); h.serial != c.wantSerial || h.place != c.place {
			t.Errorf("%s: %+v", c.name, h)
		}
	}
}

// P7.1: every bit of every block that a journal has written, and of the others, changed: Open finds what the model finds.
func TestEveryBit(t *testing.T) {
	d := newDrum(t, 13)
	j := format(t, d, "old")
	wantErr(t, "Compact", j.Compact([]byte("s")), nil)
	wantErr(t, "Append", j.Append([]byte(text(60))), nil)
	wantErr(t, "Append", open(t, d).Append([]byte("z")), nil)
	image := d.Image()
	for bit := range 8 * len(image) {
		bent := bytes.Clone(image)
		bent[bit/8] ^= 1 << (bit % 8)
		wantAsModel(t, bent)
		i := bit / 8 / api.BlockSize * api.BlockSize
		// With a right check it is another valid block, or one whose form is wrong.
		copy(bent[i:], sealed(bent[i:i+api.BlockSize]))
		wantAsModel(t, bent)
	}
}

// wantAsModel opens a drum of these bytes, and holds that against the model.
func wantAsModel(t *testing.T, image []byte) {
	t.Helper()
	d := drumOf(t, image)
	j, err := journal.Open(d)
	c := model{image}.open()
	if err != c.err {
		t.Fatalf("Open of %x: %v, want %v", image, err, c.err)
	}
	if err == nil && !slices.EqualFunc(j.Records(), c.after.records, bytes.Equal) {
		t.Fatalf("Open of %x finds %q; want %q", image, j.Records(), c.after.records)
	}
}

// P7.1: each thing that is asked of a record, wrong in one record alone: it and those behind it aren't there.
func TestWrongRecords(t *testing.T) {
	const gen, epoch = 6, 4
	whole := func(at int, record string) []byte { return recordBytes(gen, epoch, at, []byte(record)) }
	piece := func(kind byte, g, e uint32, index int, data string) []byte {
		return raw(kind, g, e, uint32(index), byte(len(data)), []byte(data))
	}
	two := "\x00\x46" + text(44) // the beginning of a record of 70 bytes
	rest := text(26)
	for _, c := range []struct {
		name string
		at1  []byte // from index 1 on
		want int    // how many records
	}{
		{"right, of one block", whole(1, "a"), 2},
		{"right, of two blocks", append(piece(1, gen, epoch, 1, two), piece(2, gen, epoch, 2, rest)...), 2},
		{"right, two records", append(whole(1, "a"), whole(2, "b")...), 3},
		{"of no bytes", piece(1, gen, epoch, 1, "\x00\x00"), 2},
		{"kind 2", piece(2, gen, epoch, 1, "\x00\x01a"), 1},
		{"kind 3", piece(3, gen, epoch, 1, "\x00\x01a"), 1},
		{"kind 0", piece(0, gen, epoch, 1, "\x00\x01a"), 1},
		{"kind 4", piece(4, gen, epoch, 1, "\x00\x01a"), 1},
		{"kind 255", piece(255, gen, epoch, 1, "\x00\x01a"), 1},
		{"a lower generation", piece(1, gen-1, epoch, 1, "\x00\x01a"), 1},
		{"a greater generation", piece(1, gen+1, epoch, 1, "\x00\x01a"), 1},
		{"a lower epoch than the last", piece(1, gen, epoch-1, 1, "\x00\x01a"), 1},
		{"the head's epoch", piece(1, gen, epoch+2, 1, "\x00\x01a"), 2},
		{"a greater epoch than the head's", piece(1, gen, epoch+3, 1, "\x00\x01a"), 1},
		{"an epoch that falls again", append(piece(1, gen, epoch+2, 1, "\x00\x01a"), piece(1, gen, epoch+1, 2, "\x00\x01a")...), 2},
		{"an epoch that rises", append(piece(1, gen, epoch+1, 1, "\x00\x01a"), piece(1, gen, epoch+2, 2, "\x00\x01a")...), 3},
		{"index 0", piece(1, gen, epoch, 0, "\x00\x01a"), 1},
		{"index 2", piece(1, gen, epoch, 2, "\x00\x01a"), 1},
		{"the block's own number", piece(1, gen, epoch, 3, "\x00\x01a"), 1},
		{"no bytes at all", piece(1, gen, epoch, 1, ""), 1},
		{"one byte", piece(1, gen, epoch, 1, "\x00"), 1},
		{"a byte too few", piece(1, gen, epoch, 1, "\x00\x02a"), 1},
		{"a byte too many", piece(1, gen, epoch, 1, "\x00\x01ab"), 1},
		{"a length in the wrong order", piece(1, gen, epoch, 1, "\x01\x00a"), 1},
		{"bytes in the padding", raw(1, gen, epoch, 1, 3, []byte("\x00\x01ab")), 1},
		{"a byte at the end of the padding", raw(1, gen, epoch, 1, 3, append([]byte("\x00\x01a"), append(make([]byte, 42), 1)...)), 1},
		{"a count of 47", raw(1, gen, epoch, 1, 47, []byte("\x00\x2d"+text(44))), 1},
		{"a count of 50", raw(1, gen, epoch, 1, 50, []byte("\x00\x30"+text(44))), 1},
		{"a count of 51", raw(1, gen, epoch, 1, 51, []byte("\x00\x31"+text(44))), 1},
		{"no second block", piece(1, gen, epoch, 1, two), 1},
		{"a second block of kind 1", append(piece(1, gen, epoch, 1, two), piece(1, gen, epoch, 2, rest)...), 1},
		{"a second block of kind 3", append(piece(1, gen, epoch, 1, two), piece(3, gen, epoch, 2, rest)...), 1},
		{"a second block of a lower epoch", append(piece(1, gen, epoch, 1, two), piece(2, gen, epoch-1, 2, rest)...), 1},
		{"a second block of a greater epoch", append(piece(1, gen, epoch, 1, two), piece(2, gen, epoch+1, 2, rest)...), 1},
		{"a second block of another generation", append(piece(1, gen, epoch, 1, two), piece(2, gen-1, epoch, 2, rest)...), 1},
		{"a second block of another index", append(piece(1, gen, epoch, 1, two), piece(2, gen, epoch, 1, rest)...), 1},
		{"a second block with a byte too few", append(piece(1, gen, epoch, 1, two), piece(2, gen, epoch, 2, rest[1:])...), 1},
		{"a second block with a byte too many", append(piece(1, gen, epoch, 1, two), piece(2, gen, epoch, 2, rest+"x")...), 1},
		{"a first block that isn't full", append(piece(1, gen, epoch, 1, two[:45]), piece(2, gen, epoch, 2, "x"+rest)...), 1},
		{"a third block that isn't needed", slices.Concat(piece(1, gen, epoch, 1, two[:46]), piece(2, gen, epoch, 2, rest[1:]), piece(2, gen, epoch, 3, "x")), 1},
		{"a wrong one ahead of a right one", append(piece(1, gen, epoch, 0, "\x00\x01a"), whole(2, "b")...), 1},
		{"a right one ahead of a wrong one", append(whole(1, "b"), piece(1, gen, epoch, 1, "\x00\x01a")...), 2},
		{"a right one behind an empty block", append(make([]byte, 64), whole(2, "b")...), 1},
	} {
		for area := range 2 {
			image := make([]byte, 21*api.BlockSize)
			copy(image, mhead{serial: 1, gen: gen, epoch: epoch + 2, area: area}.bytes())
			from := (2 + 9*area) * api.BlockSize
			copy(image[from:], append(whole(0, "s"), c.at1...))
			wantAsModel(t, image)
			if got := open(t, drumOf(t, image)).Records(); len(got) != c.want {
				t.Errorf("%s, area %d: %d records, want %d", c.name, area, len(got), c.want)
			}
		}
	}
}

// P7.1: a length of up to MaxRecord is right, and no greater one, though all the blocks for it are there.
func TestRecordTooLong(t *testing.T) {
	for _, n := range []int{1999, 2000, 2001, 2022, 2023} {
		image := make([]byte, 202*api.BlockSize)
		copy(image, mhead{serial: 1, gen: 1, epoch: 1}.bytes())
		copy(image[2*api.BlockSize:], append(recordBytes(1, 1, 0, nil), recordBytes(1, 1, 1, []byte(text(n)))...))
		if got := open(t, drumOf(t, image)).Records(); (len(got) == 2) != (n <= 2000) {
			t.Errorf("a record of %d bytes: %d records", n, len(got))
		}
	}
}

// P7.1: no record reaches beyond its area, nor begins behind it, whatever stands there: the other area's first block, or a block of none.
func TestAreaEnds(t *testing.T) {
	two := []byte("\x00\x46" + text(44)) // the beginning of a record of 70 bytes
	for area := range 2 {
		for _, index := range []uint32{0, 5} {
			for _, c := range []struct {
				snapshot string
				behind   []byte
				free     int
			}{
				{text(4*46 - 2), append(raw(1, 1, 1, 4, 46, two), raw(2, 1, 1, index, 26, []byte(text(26)))...), 44},
				{text(5*46 - 2), raw(1, 1, 1, index, 3, []byte("\x00\x01a")), -1},
			} {
				image := make([]byte, 13*api.BlockSize)
				copy(image, mhead{serial: 1, gen: 1, epoch: 1, area: area}.bytes())
				copy(image[(2+5*area)*api.BlockSize:], append(recordBytes(1, 1, 0, []byte(c.snapshot)), c.behind...))
				wantAsModel(t, image)
				j := open(t, drumOf(t, image))
				wantRecords(t, j, c.snapshot)
				if j.Free() != c.free {
					t.Errorf("area %d: Free %d, want %d", area, j.Free(), c.free)
				}
			}
		}
	}
}

// P7.1: no current head's snapshot means no journal, but Format goes on from that head.
func TestHeadWithoutSnapshot(t *testing.T) {
	image := make([]byte, 12*api.BlockSize)
	copy(image[api.BlockSize:], mhead{serial: 4, gen: 5, epoch: 6, area: 0}.bytes())
	copy(image[3*api.BlockSize:], recordBytes(5, 6, 1, []byte("a")))
	d := drumOf(t, image)
	noOpen(t, d, api.ErrNone)
	j := format(t, d, "s")
	wantWritten(t, d, image, 7, 0)
	if h, _ := (model{d.Image()}).head(); h != (mhead{0, 5, 6, 7, 1}) || j.Epoch() != 7 {
		t.Errorf("%+v", h)
	}
}

// Rule 4: arguments stay as they were and aren't kept; what is returned is the caller's own.
func TestMemory(t *testing.T) {
	d := newDrum(t, 40)
	room := []byte("(snapshot)......")
	b := room[1:9]
	j, err := journal.Format(d, b)
	wantErr(t, "Format", err, nil)
	wantErr(t, "Append", j.Append(b), nil)
	if string(room) != "(snapshot)......" {
		t.Fatalf("an argument was changed: %q", room)
	}
	clear(room)
	wantRecords(t, j, "snapshot", "snapshot")
	for range 2 {
		got := j.Records()
		for i := range got {
			_ = append(got[i], "xyz"...)
			clear(got[i][:1])
		}
		if string(got[1]) != "\x00napshot" {
			t.Fatalf("%q", got)
		}
		got[0] = nil
		_ = append(got, nil)
		wantRecords(t, j, "snapshot", "snapshot")
	}
	k := open(t, d)
	copy(k.Records()[0], "xxx")
	wantRecords(t, k, "snapshot", "snapshot")
	c := []byte("new")
	wantErr(t, "Compact", k.Compact(c), nil)
	clear(c)
	wantRecords(t, k, "new")
	wantRecords(t, j, "snapshot", "snapshot")
}

// Rule 4: nil and no bytes are the same.
func TestNoBytes(t *testing.T) {
	one, two := newDrum(t, 20), newDrum(t, 20)
	j, k := format(t, one, ""), format(t, two, "")
	wantErr(t, "Append", j.Append(nil), nil)
	wantErr(t, "Append", k.Append([]byte{}), nil)
	wantErr(t, "Compact", j.Compact([]byte{}), nil)
	wantErr(t, "Compact", k.Compact(nil), nil)
	wantRecords(t, j, "")
	wantRecords(t, k, "")
	wantWritten(t, one, two.Image())
}
