package book_test

import (
	"bytes"
	"crypto/sha256"
	"encoding/binary"
	"fmt"
	"slices"
	"strings"
	"testing"

	"jackfield/api"
	"jackfield/book"
	"jackfield/drum"
	"jackfield/journal"
)

func newDrum(t *testing.T, blocks int) *drum.Drum {
	t.Helper()
	d, err := drum.New(blocks)
	if err != nil {
		t.Fatal(err)
	}
	return d
}

func drumOf(t *testing.T, image []byte) *drum.Drum {
	t.Helper()
	d, err := drum.From(image)
	if err != nil {
		t.Fatal(err)
	}
	return d
}

func format(t *testing.T, d *drum.Drum) *book.Book {
	t.Helper()
	k, err := book.Format(d)
	if err != nil || k == nil {
		t.Fatalf("Format = %v, %v", k, err)
	}
	return k
}

func open(t *testing.T, d *drum.Drum) *book.Book {
	t.Helper()
	k, err := book.Open(d)
	if err != nil || k == nil {
		t.Fatalf("Open = %v, %v", k, err)
	}
	return k
}

func noFormat(t *testing.T, d *drum.Drum, want error) {
	t.Helper()
	if k, err := book.Format(d); k != nil || err != want {
		t.Fatalf("Format = %v, %v; want %v", k, err, want)
	}
}

func noOpen(t *testing.T, d *drum.Drum, want error) {
	t.Helper()
	if k, err := book.Open(d); k != nil || err != want {
		t.Fatalf("Open = %v, %v; want %v", k, err, want)
	}
}

func wantErr(t *testing.T, what string, got, want error) {
	t.Helper()
	if got != want {
		t.Fatalf("%s: %v; want %v", what, got, want)
	}
}

// pairs is reservations, by patterns and owners in turn.
func pairs(words ...string) (list []api.Reservation) {
	for p := range slices.Chunk(words, 2) {
		list = append(list, api.Reservation{Name: p[0], Owner: p[1]})
	}
	return list
}

func wantHeld(t *testing.T, k *book.Book, words ...string) {
	t.Helper()
	wantList(t, k, pairs(words...))
}

// wantList asks a book for all reservations at once, and one by one.
func wantList(t *testing.T, k *book.Book, want []api.Reservation) {
	t.Helper()
	if got := k.List(); !slices.Equal(got, want) {
		t.Fatalf("List = %q; want %q", got, want)
	}
	for _, r := range want {
		if owner, ok := k.Owner(r.Name); owner != r.Owner || !ok {
			t.Fatalf("Owner(%q) = %q, %v; want %q", r.Name, owner, ok, r.Owner)
		}
	}
}

func wantMatch(t *testing.T, k *book.Book, name, pattern, owner string) {
	t.Helper()
	got, ok := k.Match(name)
	if got != (api.Reservation{Name: pattern, Owner: owner}) || ok != (pattern != "") {
		t.Errorf("Match(%q) = %q, %v; want %q of %q", name, got, ok, pattern, owner)
	}
}

func reserve(t *testing.T, k *book.Book, words ...string) {
	t.Helper()
	for p := range slices.Chunk(words, 2) {
		wantErr(t, "Reserve "+p[0], k.Reserve(p[1], p[0]), nil)
	}
}

// wantRecords looks at a copy of the drum.
func wantRecords(t *testing.T, d *drum.Drum, want ...string) {
	t.Helper()
	j, err := journal.Open(drumOf(t, d.Image()))
	if err != nil {
		t.Fatal(err)
	}
	got := j.Records()
	if !slices.EqualFunc(got, want, func(b []byte, s string) bool { return string(b) == s }) {
		t.Fatalf("the records are %q; want %q", got, want)
	}
}

// deedText is a deed's bytes, put together here.
func deedText(kind byte, pattern, owner string) string {
	return string([]byte{kind}) + text(pattern) + text(owner)
}

// listText is a snapshot's bytes, put together here.
func listText(words ...string) string {
	s := string([]byte{byte(len(words) / 2)})
	for _, w := range words {
		s += text(w)
	}
	return s
}

func text(s string) string { return string([]byte{byte(len(s))}) + s }

// long is the i-th of some patterns of 63 bytes, in increasing order.
func long(i int) string {
	tail := strings.Repeat("x", 16)
	return fmt.Sprintf("n%012d.", i) + tail + "." + tail + "." + tail[:15]
}

// who is an owner of 16 bytes.
const who = "an owner, 16 by/"

// P9.1: the chapter's examples.
func TestExamples(t *testing.T) {
	k := format(t, newDrum(t, 20))
	reserve(t, k, "*.shop", "ann", "*.shop", "ann")
	wantErr(t, "Reserve", k.Reserve("bob", "*.shop"), api.ErrTaken)
	wantMatch(t, k, "a.shop", "*.shop", "ann")
	b, err := book.PutDeed(api.Deed{Name: "a", Owner: "b"})
	if err != nil || !bytes.Equal(b, []byte{1, 1, 0x61, 1, 0x62}) {
		t.Errorf("PutDeed = % x, %v", b, err)
	}
}

// P9.1: a reservation comes, is asked for, and goes.
func TestReserveAndRelease(t *testing.T) {
	d := newDrum(t, 40)
	k := format(t, d)
	wantHeld(t, k)
	if owner, ok := k.Owner("a"); owner != "" || ok {
		t.Errorf("Owner of what nobody has = %q, %v", owner, ok)
	}
	reserve(t, k, "b", "bob", "*.b", "ann", "a.b", "bob", "a", "/")
	wantHeld(t, k, "*.b", "ann", "a", "/", "a.b", "bob", "b", "bob")
	wantErr(t, "Release", k.Release("ann", "c.b"), api.ErrNone)
	wantErr(t, "Release", k.Release("ann", "a.b"), api.ErrOwner)
	wantErr(t, "Release", k.Release("bob", "*.b"), api.ErrOwner)
	wantErr(t, "Release", k.Release("bob", "a.b"), nil)
	wantErr(t, "Release", k.Release("bob", "a.b"), api.ErrNone)
	if owner, ok := k.Owner("a.b"); owner != "" || ok {
		t.Errorf("Owner of what was released = %q, %v", owner, ok)
	}
	wantHeld(t, k, "*.b", "ann", "a", "/", "b", "bob")
	reserve(t, k, "a.b", "ann")
	wantHeld(t, k, "*.b", "ann", "a", "/", "a.b", "ann", "b", "bob")
	wantHeld(t, open(t, d), "*.b", "ann", "a", "/", "a.b", "ann", "b", "bob")
}

// P9.1: what is written is a snapshot without reservations, and a record a deed; a call that changes nothing writes nothing.
func TestRecords(t *testing.T) {
	d := newDrum(t, 20)
	k := format(t, d)
	want := []string{"\x00"}
	wantRecords(t, d, want...)
	if d.Writes() != 2 || k.Epoch() != 1 || k.Dead() {
		t.Errorf("Writes %d, Epoch %d, Dead %v", d.Writes(), k.Epoch(), k.Dead())
	}
	reserve(t, k, "*.shop", "ann")
	want = append(want, "\x01\x06*.shop\x03ann")
	wantRecords(t, d, want...)
	before, writes := d.Image(), d.Writes()
	reserve(t, k, "*.shop", "ann")
	wantErr(t, "Reserve", k.Reserve("bob", "*.shop"), api.ErrTaken)
	wantErr(t, "Reserve", k.Reserve("bob", "*shop"), api.ErrName)
	wantErr(t, "Release", k.Release("bob", "*.shop"), api.ErrOwner)
	wantErr(t, "Release", k.Release("bob", "shop"), api.ErrNone)
	wantErr(t, "Release", k.Release("", "*.shop"), api.ErrName)
	if !bytes.Equal(d.Image(), before) || d.Writes() != writes {
		t.Errorf("%d blocks were written for nothing", d.Writes()-writes)
	}
	wantErr(t, "Release", k.Release("ann", "*.shop"), nil)
	want = append(want, "\x02\x06*.shop\x03ann")
	wantRecords(t, d, want...)
}

// P9.1: each Open and each Format has an epoch of its own; a Format begins with nothing.
func TestEpochs(t *testing.T) {
	d := newDrum(t, 20)
	reserve(t, format(t, d), "a", "ann")
	for n := 2; n < 6; n++ {
		k := open(t, d)
		if k.Epoch() != n || k.Dead() {
			t.Fatalf("Epoch %d, Dead %v; want %d", k.Epoch(), k.Dead(), n)
		}
		wantHeld(t, k, "a", "ann")
	}
	k := format(t, d)
	wantHeld(t, k)
	if k.Epoch() != 6 {
		t.Errorf("Epoch %d", k.Epoch())
	}
	k = open(t, d)
	wantHeld(t, k)
	if k.Epoch() != 7 {
		t.Errorf("Epoch %d", k.Epoch())
	}
}

// P9.1: Match goes by layer 8's Best.
func TestMatch(t *testing.T) {
	k := format(t, newDrum(t, 60))
	wantMatch(t, k, "a", "", "")
	reserve(t, k, "*.shop", "ann", "*.b.shop", "bob", "a.b.shop", "cy", "shop", "dan", "*.a.b.shop", "eve")
	wantMatch(t, k, "shop", "shop", "dan")
	wantMatch(t, k, "x.shop", "*.shop", "ann")
	wantMatch(t, k, "b.shop", "*.shop", "ann")
	wantMatch(t, k, "x.b.shop", "*.b.shop", "bob")
	wantMatch(t, k, "a.b.shop", "a.b.shop", "cy")
	wantMatch(t, k, "x.a.b.shop", "*.a.b.shop", "eve")
	for _, name := range []string{"", "*.shop", "*.b.shop", "xshop", "a.", "shop.a", "A.shop", "a..shop", ".shop"} {
		wantMatch(t, k, name, "", "")
	}
	wantErr(t, "Release", k.Release("cy", "a.b.shop"), nil)
	wantMatch(t, k, "a.b.shop", "*.b.shop", "bob")
	wantErr(t, "Release", k.Release("bob", "*.b.shop"), nil)
	wantMatch(t, k, "a.b.shop", "*.shop", "ann")
	wantErr(t, "Release", k.Release("ann", "*.shop"), nil)
	wantMatch(t, k, "a.b.shop", "", "")
}

// P9.1: a list that was handed out is the caller's.
func TestListIsNew(t *testing.T) {
	k := format(t, newDrum(t, 20))
	reserve(t, k, "a", "ann", "b", "bob")
	list := k.List()
	list[0] = api.Reservation{Name: "x", Owner: "y"}
	_ = append(list[:1], list[0])
	wantHeld(t, k, "a", "ann", "b", "bob")
	reserve(t, k, "c", "cy")
	if list[1] != list[0] || len(list) != 2 {
		t.Errorf("a list became %q", list)
	}
}

// P9.1: owners and patterns at their edges.
func TestNames(t *testing.T) {
	d := newDrum(t, 400)
	k := format(t, d)
	for _, owner := range []string{"", strings.Repeat("o", 17), strings.Repeat("o", 255), strings.Repeat("o", 256), strings.Repeat("é", 9)} {
		wantErr(t, "Reserve for "+owner, k.Reserve(owner, "a"), api.ErrName)
		wantErr(t, "Release for "+owner, k.Release(owner, "a"), api.ErrName)
	}
	wrong := []string{"", "*", "*.", "-a", "a-", "a..b", "a.*.b", "*.*.a", "A", "a b", "a.", ".a", "é", "a\x00",
		strings.Repeat("a", 17), strings.Repeat("a.", 8) + "a", long(1) + "x", "*." + long(1), "*." + long(1)[2:] + "x"}
	for _, pattern := range wrong {
		wantErr(t, "Reserve of "+pattern, k.Reserve("ann", pattern), api.ErrName)
		wantErr(t, "Release of "+pattern, k.Release("ann", pattern), api.ErrName)
		if owner, ok := k.Owner(pattern); owner != "" || ok {
			t.Errorf("Owner(%q) = %q, %v", pattern, owner, ok)
		}
	}
	wantHeld(t, k)
	right := []string{"*." + long(1)[2:], who, "*.a", "\x00", "a", "\xff\xfe", "a.a.a.a.a.a.a.a", "a.b", "b", strings.Repeat("o", 16), long(1), who}
	reserve(t, k, right...)
	wantList(t, open(t, d), k.List())
	if len(k.List()) != len(right)/2 {
		t.Errorf("List = %q", k.List())
	}
}

// P9.1: owners are told apart byte by byte.
func TestOwnersAreBytes(t *testing.T) {
	k := format(t, newDrum(t, 20))
	reserve(t, k, "a", "ann")
	for _, other := range []string{"Ann", "an", "anna", "ann ", " ann", "ann\x00", "anm"} {
		wantErr(t, "Reserve for "+other, k.Reserve(other, "a"), api.ErrTaken)
		wantErr(t, "Release for "+other, k.Release(other, "a"), api.ErrOwner)
	}
	wantHeld(t, k, "a", "ann")
}

// full is a book of as many reservations as may be.
func full(t *testing.T, d *drum.Drum) *book.Book {
	t.Helper()
	k := format(t, d)
	for i := range api.MaxNames {
		reserve(t, k, fmt.Sprintf("n%02d", i), "ann")
	}
	return k
}

// P9.1: MaxNames reservations, and one more.
func TestFull(t *testing.T) {
	for _, blocks := range []int{30, 41, 200} {
		d := newDrum(t, blocks)
		k := full(t, d)
		wantErr(t, "Reserve", k.Reserve("ann", "x"), api.ErrFull)
		reserve(t, k, "n07", "ann")
		wantErr(t, "Reserve", k.Reserve("bob", "n07"), api.ErrTaken)
		wantErr(t, "Reserve", k.Reserve("bob", "*"), api.ErrName)
		wantErr(t, "Release", k.Release("ann", "x"), api.ErrNone)
		if len(k.List()) != api.MaxNames {
			t.Fatalf("%d reservations", len(k.List()))
		}
		wantList(t, open(t, d), k.List())
		k = open(t, d)
		wantErr(t, "Reserve", k.Reserve("ann", "x"), api.ErrFull)
		wantErr(t, "Release", k.Release("ann", "n07"), nil)
		reserve(t, k, "n07", "bob")
		wantErr(t, "Reserve", k.Reserve("ann", "x"), api.ErrFull)
		if owner, ok := k.Owner("n07"); owner != "bob" || !ok {
			t.Errorf("Owner = %q, %v", owner, ok)
		}
	}
}

// P9.1: without power, and with a journal that is dead.
func TestPower(t *testing.T) {
	d := newDrum(t, 40)
	k := format(t, d)
	reserve(t, k, "a", "ann", "b", "bob")
	d.Arm(0)
	wantErr(t, "Reserve", k.Reserve("ann", "a"), nil)
	wantErr(t, "Reserve", k.Reserve("ann", "b"), api.ErrTaken)
	wantErr(t, "Release", k.Release("ann", "b"), api.ErrOwner)
	if k.Dead() || d.Off() {
		t.Fatalf("Dead %v, Off %v before a write", k.Dead(), d.Off())
	}
	wantErr(t, "Reserve", k.Reserve("cy", "c"), api.ErrPower)
	if !k.Dead() || !d.Off() || k.Epoch() != 1 {
		t.Fatalf("Dead %v, Off %v, Epoch %d behind it", k.Dead(), d.Off(), k.Epoch())
	}
	wantHeld(t, k, "a", "ann", "b", "bob")
	wantMatch(t, k, "a", "a", "ann")
	for _, on := range []bool{false, true} {
		if on {
			d.On()
		}
		before := d.Image()
		wantErr(t, "Reserve", k.Reserve("ann", "a"), api.ErrState)
		wantErr(t, "Reserve", k.Reserve("bob", "a"), api.ErrState)
		wantErr(t, "Reserve", k.Reserve("", "*"), api.ErrState)
		wantErr(t, "Reserve", k.Reserve("cy", "c"), api.ErrState)
		wantErr(t, "Release", k.Release("ann", "a"), api.ErrState)
		wantErr(t, "Release", k.Release("", "*"), api.ErrState)
		wantErr(t, "Release", k.Release("ann", "c"), api.ErrState)
		if !bytes.Equal(before, d.Image()) {
			t.Error("a dead book wrote")
		}
	}
	k = open(t, d)
	wantHeld(t, k, "a", "ann", "b", "bob")
	d.Arm(0)
	wantErr(t, "Release", k.Release("bob", "b"), api.ErrPower)
	wantHeld(t, k, "a", "ann", "b", "bob")
	wantErr(t, "Release", k.Release("bob", "b"), api.ErrState)
	d.On()
	wantHeld(t, open(t, d), "a", "ann", "b", "bob")
}

// P9.1: a book whose drum is off is not dead until it wants to write.
func TestOff(t *testing.T) {
	d := newDrum(t, 20)
	k := format(t, d)
	reserve(t, k, "a", "ann")
	d.Arm(0)
	noFormat(t, d, api.ErrPower)
	if !d.Off() || k.Dead() {
		t.Fatalf("Off %v, Dead %v", d.Off(), k.Dead())
	}
	noFormat(t, d, api.ErrPower)
	noOpen(t, d, api.ErrPower)
	wantErr(t, "Reserve", k.Reserve("", "b"), api.ErrName)
	wantErr(t, "Reserve", k.Reserve("ann", "a"), nil)
	wantErr(t, "Reserve", k.Reserve("bob", "a"), api.ErrTaken)
	wantErr(t, "Release", k.Release("bob", "b"), api.ErrNone)
	wantErr(t, "Release", k.Release("ann", "a"), api.ErrPower)
	if !k.Dead() {
		t.Error("it is not dead")
	}
	wantHeld(t, k, "a", "ann")
}

// P9.1: where there is no room for a deed, the snapshot with the deed applied is written.
func TestCompacts(t *testing.T) {
	d := newDrum(t, 10)
	k := format(t, d)
	reserve(t, k, "b", "bob", "a", "ann", "c", "cy")
	wantRecords(t, d, listText(), deedText(1, "b", "bob"), deedText(1, "a", "ann"), deedText(1, "c", "cy"))
	writes := d.Writes()
	reserve(t, k, "a", "ann")
	wantErr(t, "Reserve", k.Reserve("ann", "b"), api.ErrTaken)
	if d.Writes() != writes {
		t.Fatal("something was written")
	}
	reserve(t, k, "*.d", "dan")
	wantRecords(t, d, listText("*.d", "dan", "a", "ann", "b", "bob", "c", "cy"))
	if d.Writes() != writes+2 || k.Epoch() != 1 {
		t.Errorf("%d blocks were written, Epoch %d", d.Writes()-writes, k.Epoch())
	}
	wantErr(t, "Release", k.Release("bob", "b"), nil)
	wantErr(t, "Release", k.Release("ann", "a"), nil)
	reserve(t, k, "b", "eve")
	wantErr(t, "Release", k.Release("cy", "c"), nil)
	wantRecords(t, d, listText("*.d", "dan", "b", "eve"))
	wantHeld(t, k, "*.d", "dan", "b", "eve")
	wantHeld(t, open(t, d), "*.d", "dan", "b", "eve")
}

// P9.1: an area that is too small for what would be held. Its four blocks have room for two of the longest reservations, not for three.
func TestAreaTooSmall(t *testing.T) {
	for _, blocks := range []int{10, 11} {
		d := newDrum(t, blocks)
		k := format(t, d)
		reserve(t, k, long(2), who, long(1), who)
		wantRecords(t, d, listText(long(1), who, long(2), who))
		wantUnchanged(t, d, k, func() { wantErr(t, "Reserve", k.Reserve(who, long(3)), api.ErrFull) })
		reserve(t, k, "a", "ann")
		wantRecords(t, d, listText("a", "ann", long(1), who, long(2), who))
		wantErr(t, "Release", k.Release(who, long(2)), nil)
		reserve(t, k, long(3), who)
		wantList(t, open(t, d), pairs("a", "ann", long(1), who, long(3), who))
	}
}

// wantUnchanged holds what a call leaves against what was there ahead of it.
func wantUnchanged(t *testing.T, d *drum.Drum, k *book.Book, call func()) {
	t.Helper()
	list, image, writes := k.List(), d.Image(), d.Writes()
	call()
	wantList(t, k, list)
	if k.Dead() || d.Off() {
		t.Fatalf("Dead %v, Off %v", k.Dead(), d.Off())
	}
	if d.Writes() != writes || !bytes.Equal(image, d.Image()) {
		t.Fatalf("%d blocks were written", d.Writes()-writes)
	}
}

// P9.1: what would be held is too long for a record: 24 of the longest reservations have 1945 bytes, 25 have 2026. Where the area has room for deeds still, that's no matter.
func TestRecordTooLong(t *testing.T) {
	d := newDrum(t, 2+2*61)
	k := format(t, d)
	for i := range 30 {
		reserve(t, k, long(i), who)
	}
	if k.Free() != -1 {
		t.Fatalf("%d bytes are free", k.Free())
	}
	wantUnchanged(t, d, k, func() { wantErr(t, "Reserve", k.Reserve(who, long(30)), api.ErrFull) })
	wantUnchanged(t, d, k, func() { wantErr(t, "Reserve", k.Reserve("a", "a"), api.ErrFull) })
	wantUnchanged(t, d, k, func() { wantErr(t, "Release", k.Release(who, long(3)), api.ErrFull) })
	wantUnchanged(t, d, k, func() { wantErr(t, "Release", k.Release("a", long(3)), api.ErrOwner) })
	wantUnchanged(t, d, k, func() { wantErr(t, "Reserve", k.Reserve(who, long(3)), nil) })
	wantList(t, open(t, d), k.List())

	d = newDrum(t, 2+2*51)
	k = format(t, d)
	for i := range 25 {
		reserve(t, k, long(i), who)
	}
	wantUnchanged(t, d, k, func() { wantErr(t, "Reserve", k.Reserve("a", "a"), api.ErrFull) })
	wantErr(t, "Release", k.Release(who, long(24)), nil)
	var words []string
	for i := range 24 {
		words = append(words, long(i), who)
	}
	wantRecords(t, d, listText(words...))
	wantList(t, open(t, d), pairs(words...))
}

// P9.1: neither is written when the head's numbers are at their end.
func TestNumbersEnd(t *testing.T) {
	for _, at := range []int{1, 5} { // the serial, the generation
		d := newDrum(t, 10)
		reserve(t, format(t, d), "a", "ann", "b", "bob", "c", "cy")
		b, err := d.Read(0)
		if err != nil {
			t.Fatal(err)
		}
		binary.BigEndian.PutUint32(b[at:], 1<<32-2)
		if at == 5 { // the records' blocks have it, too
			for i := 2; i < 6; i++ {
				p, err := d.Read(i)
				if err != nil {
					t.Fatal(err)
				}
				binary.BigEndian.PutUint32(p[1:], 1<<32-2)
				wantErr(t, "Write", d.Write(i, sealed(p)), nil)
			}
		}
		wantErr(t, "Write", d.Write(0, sealed(b)), nil)
		k := open(t, d)
		wantHeld(t, k, "a", "ann", "b", "bob", "c", "cy")
		if at == 5 { // the last generation there may be
			wantErr(t, "Release", k.Release("cy", "c"), nil)
			wantErr(t, "Release", k.Release("bob", "b"), nil)
			reserve(t, k, "c", "cy", "b", "bob")
		}
		wantUnchanged(t, d, k, func() { wantErr(t, "Reserve", k.Reserve("dan", "d"), api.ErrFull) })
		wantUnchanged(t, d, k, func() { wantErr(t, "Release", k.Release("ann", "a"), api.ErrFull) })
	}
}

// sealed is a block with its check made right.
func sealed(b api.Block) api.Block {
	sum := sha256.Sum256(b[:60])
	copy(b[60:], sum[:4])
	return b
}

// P9.1: Format and Open have layer 7's errors.
func TestJournalErrors(t *testing.T) {
	for _, blocks := range []int{1, 2, 9} {
		noFormat(t, newDrum(t, blocks), api.ErrRange)
		noOpen(t, newDrum(t, blocks), api.ErrRange)
	}
	noOpen(t, newDrum(t, 10), api.ErrNone)
	for n := range 2 {
		d := newDrum(t, 10)
		d.Arm(n)
		noFormat(t, d, api.ErrPower)
		d.On()
		noOpen(t, d, api.ErrNone)
	}
	d := newDrum(t, 10)
	reserve(t, format(t, d), "a", "ann")
	d.Arm(0)
	noOpen(t, d, api.ErrPower)
	d.On()
	k := open(t, d)
	if wantHeld(t, k, "a", "ann"); k.Epoch() != 2 {
		t.Errorf("Epoch %d", k.Epoch())
	}
	b, err := d.Read(1)
	if err != nil {
		t.Fatal(err)
	}
	binary.BigEndian.PutUint32(b[1:], 1<<32-1)
	wantErr(t, "Write", d.Write(1, sealed(b)), nil)
	noOpen(t, d, api.ErrFull)
	noFormat(t, d, api.ErrFull)
}

// recorded is a drum of a journal with these records.
func recorded(t *testing.T, records ...string) *drum.Drum {
	t.Helper()
	d := newDrum(t, 300)
	j, err := journal.Format(d, []byte(records[0]))
	if err != nil {
		t.Fatal(err)
	}
	for _, r := range records[1:] {
		wantErr(t, "Append", j.Append([]byte(r)), nil)
	}
	return d
}

// P9.1: Open of records that another hand wrote.
func TestOpenRecords(t *testing.T) {
	two := listText("a", "ann", "b", "bob")
	// The last record is right; a longer list begins with a right one.
	for _, records := range [][]string{
		{listText()},
		{listText(), deedText(1, "a", "ann"), deedText(1, "b", "bob")},
		{two},
		{listText("a", "ann"), deedText(1, "b", "bob")},
		{two, deedText(2, "b", "bob"), deedText(1, "b", "bob")},
		{two, deedText(2, "a", "ann"), deedText(1, "a", "bob"), deedText(2, "a", "bob"), deedText(1, "a", "ann")},
	} {
		k := open(t, recorded(t, records...))
		if len(records) == 1 && records[0] == "\x00" {
			wantHeld(t, k)
		} else {
			wantHeld(t, k, "a", "ann", "b", "bob")
		}
	}
	for _, records := range [][]string{
		{""}, {"\x01"}, {"\x00\x00"}, {two + "x"}, {two[:len(two)-1]}, {"\x03" + two[1:]}, {"\x01" + two[1:]},
		{listText("b", "bob", "a", "ann")}, {listText("a", "ann", "a", "ann")}, {listText("a", "ann", "a", "bob")},
		{listText("a", "")}, {listText("", "ann")}, {listText("*", "ann")}, {listText("a", who+"x")},
		{deedText(2, "a", "ann")},
		{two, ""}, {two, "\x00"}, {two, listText()}, {two, two}, {two, deedText(0, "c", "cy")}, {two, deedText(3, "c", "cy")},
		{two, deedText(1, "c", "cy") + "x"}, {two, deedText(1, "c", "cy")[:5]}, {two, deedText(1, "c", "")}, {two, deedText(1, "-", "cy")},
		{two, deedText(2, "-", "cy")}, {two, deedText(2, "a", "")},
		{two, deedText(1, "a", "bob")}, {two, deedText(2, "a", "bob")}, {two, deedText(2, "c", "cy")},
		{two, deedText(2, "a", "ann"), deedText(2, "a", "ann")},
		{two, deedText(1, "c", "cy"), deedText(1, "c", "dan"), deedText(1, "d", "dan")},
		{two, deedText(2, "c", "cy"), deedText(1, "c", "cy")},
	} {
		d := recorded(t, records...)
		noOpen(t, d, api.ErrNone)
		noOpen(t, d, api.ErrNone)
		d.Arm(0)
		noOpen(t, d, api.ErrPower)
	}
}

// P9.1: a record is taken by its place: the bytes of a snapshot of one reservation are those of a deed, too.
func TestSameBytesTwice(t *testing.T) {
	both := "\x01\x01a\x01b"
	wantHeld(t, open(t, recorded(t, both)), "a", "b")
	wantHeld(t, open(t, recorded(t, "\x00", both)), "a", "b")
	wantHeld(t, open(t, recorded(t, both, deedText(2, "a", "b"), both)), "a", "b")
}

// P9.1: a deed by which an owner reserves what is theirs can be applied, as the call can be made: it changes nothing.
func TestOpenOwnAgain(t *testing.T) {
	d := recorded(t, listText("a", "ann"), deedText(1, "a", "ann"), deedText(1, "b", "bob"), deedText(1, "b", "bob"))
	wantHeld(t, open(t, d), "a", "ann", "b", "bob")
}

// P9.1: records with as many reservations as may be, and with one more.
func TestOpenFull(t *testing.T) {
	var words []string
	for i := range api.MaxNames {
		words = append(words, fmt.Sprintf("n%02d", i), "ann")
	}
	wantList(t, open(t, recorded(t, listText(words...))), pairs(words...))
	wantList(t, open(t, recorded(t, listText(words...), deedText(2, "n31", "ann"), deedText(1, "n31", "ann"))), pairs(words...))
	noOpen(t, recorded(t, listText(words...), deedText(1, "x", "ann")), api.ErrNone)
	noOpen(t, recorded(t, listText(append(words, "x", "ann")...)), api.ErrNone)
	records := []string{listText()}
	for p := range slices.Chunk(words, 2) {
		records = append(records, deedText(1, p[0], p[1]))
	}
	wantList(t, open(t, recorded(t, records...)), pairs(words...))
	noOpen(t, recorded(t, append(records, deedText(1, "x", "ann"))...), api.ErrNone)
}
