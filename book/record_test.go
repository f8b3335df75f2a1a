package book_test

import (
	"bytes"
	"fmt"
	"math/rand"
	"slices"
	"strings"
	"testing"

	"jackfield/api"
	"jackfield/book"
)

func wantDeed(t *testing.T, d api.Deed, want string) {
	t.Helper()
	b, err := book.PutDeed(d)
	if err != nil || string(b) != want {
		t.Errorf("PutDeed(%+v) = %q, %v; want %q", d, b, err, want)
	}
	given := []byte(want)
	got, err := book.GetDeed(given)
	if err != nil || got != d || string(given) != want {
		t.Errorf("GetDeed(%q) = %+v, %v; want %+v", want, got, err, d)
	}
}

func noPutDeed(t *testing.T, d api.Deed) {
	t.Helper()
	if b, err := book.PutDeed(d); len(b) > 0 || err != api.ErrName {
		t.Errorf("PutDeed(%+v) = %q, %v", d, b, err)
	}
}

func noGetDeed(t *testing.T, s string) {
	t.Helper()
	if d, err := book.GetDeed([]byte(s)); d != (api.Deed{}) || err != api.ErrName {
		t.Errorf("GetDeed(%q) = %+v, %v", s, d, err)
	}
}

func wantListBytes(t *testing.T, list []api.Reservation, want string) {
	t.Helper()
	given := slices.Clone(list)
	b, err := book.PutList(given)
	if err != nil || string(b) != want || !slices.Equal(given, list) {
		t.Errorf("PutList(%q) = %q, %v; want %q", list, b, err, want)
	}
	got, err := book.GetList([]byte(want))
	if err != nil || !slices.Equal(got, list) {
		t.Errorf("GetList(%q) = %q, %v; want %q", want, got, err, list)
	}
}

func noPutList(t *testing.T, want error, list ...api.Reservation) {
	t.Helper()
	if b, err := book.PutList(list); len(b) > 0 || err != want {
		t.Errorf("PutList(%q) = %q, %v; want %v", list, b, err, want)
	}
}

func noGetList(t *testing.T, s string) {
	t.Helper()
	if list, err := book.GetList([]byte(s)); len(list) > 0 || err != api.ErrName {
		t.Errorf("GetList(%q) = %q, %v", s, list, err)
	}
}

// P9.1: deeds as bytes that are written out here, each way.
func TestDeedBytes(t *testing.T) {
	wantDeed(t, api.Deed{Name: "a", Owner: "b"}, "\x01\x01a\x01b")
	wantDeed(t, api.Deed{Release: true, Name: "a", Owner: "b"}, "\x02\x01a\x01b")
	wantDeed(t, api.Deed{Name: "*.shop", Owner: "ann"}, "\x01\x06*.shop\x03ann")
	wantDeed(t, api.Deed{Release: true, Name: long(7), Owner: who}, "\x02\x3f"+long(7)+"\x10"+who)
	wantDeed(t, api.Deed{Name: "x-1.y", Owner: "\x00\xff/é"}, "\x01\x05x-1.y\x05\x00\xff/é")
}

// P9.1: what is no deed, and bytes that are none's.
func TestWrongDeeds(t *testing.T) {
	for _, release := range []bool{false, true} {
		for _, pattern := range []string{"", "*", "*.", "A", "a..b", "-", long(1) + "x", strings.Repeat("a", 17), strings.Repeat("a", 300)} {
			noPutDeed(t, api.Deed{Release: release, Name: pattern, Owner: "b"})
		}
		for _, n := range []int{0, 17, 255, 256, 70000} {
			noPutDeed(t, api.Deed{Release: release, Name: "a", Owner: strings.Repeat("b", n)})
		}
	}
	for _, right := range []string{deedText(1, "a.b", "ann"), deedText(2, "*.b", who)} {
		for n := range len(right) {
			noGetDeed(t, right[:n])
			noGetDeed(t, right[n+1:])
		}
		noGetDeed(t, right+"\x00")
		noGetDeed(t, right+right)
	}
	for kind := range 256 {
		if kind != 1 && kind != 2 {
			noGetDeed(t, deedText(byte(kind), "a", "b"))
		}
	}
	for _, kind := range []byte{1, 2} {
		for _, pattern := range []string{"", "*", "*.", "A", "a..b", "-", long(1) + "x", strings.Repeat("a", 17)} {
			noGetDeed(t, deedText(kind, pattern, "b"))
		}
		for _, n := range []int{0, 17, 255} {
			noGetDeed(t, deedText(kind, "a", strings.Repeat("b", n)))
		}
	}
}

// P9.1: lists as bytes that are written out here, each way.
func TestListBytes(t *testing.T) {
	wantListBytes(t, nil, "\x00")
	wantListBytes(t, []api.Reservation{}, "\x00")
	wantListBytes(t, pairs("a", "b"), "\x01\x01a\x01b")
	wantListBytes(t, pairs("*.a", "ann", "a", "bob", "a-a", "bob", "a.a", "\x00", "aa", "ann"), "\x05\x03*.a\x03ann\x01a\x03bob\x03a-a\x03bob\x03a.a\x01\x00\x02aa\x03ann")
	var words []string
	for i := range api.MaxNames {
		words = append(words, long(i), who)
		wantListBytes(t, pairs(words...), listText(words...))
	}
}

// P9.1: lists that are too long, too short, wrong, or in a wrong order.
func TestWrongLists(t *testing.T) {
	var words []string
	for i := range api.MaxNames {
		words = append(words, fmt.Sprintf("n%02d", i), "ann")
	}
	for range 300 {
		words = append(words, "x", "ann")
		noPutList(t, api.ErrFull, pairs(words...)...)
		if len(words)/2 < 256 {
			noGetList(t, listText(words...))
		}
	}
	sorted := words[:2*api.MaxNames]
	noPutList(t, api.ErrFull, append(pairs(sorted...), api.Reservation{})...)
	noPutList(t, api.ErrFull, make([]api.Reservation, api.MaxNames+1)...)
	noPutList(t, api.ErrName, make([]api.Reservation, api.MaxNames)...)
	more := fmt.Sprintf("n%02d", api.MaxNames)
	noGetList(t, listText(append(slices.Clone(sorted), more, "ann")...))
	for _, wrong := range [][]string{
		{"b", "ann", "a", "ann"}, {"a", "ann", "a", "ann"}, {"a", "ann", "a", "bob"}, {"a", "x", "*.a", "x"}, {"a.a", "x", "a-a", "x"},
		{"a", "x", "c", "x", "b", "x"}, {"a", "x", "b", "x", "b", "y"}, {"aa", "x", "b", "x", "a", "x"},
		{"", "x"}, {"*", "x"}, {"A", "x"}, {"a", "x", "b.", "x"}, {"-", "x", "b", "x"}, {long(1) + "x", "x"},
		{"a", ""}, {"a", "x", "b", ""}, {"a", "", "b", "x"}, {"a", who + "x"}, {"a", strings.Repeat("x", 255)},
	} {
		noPutList(t, api.ErrName, pairs(wrong...)...)
		noGetList(t, listText(wrong...))
	}
	right := listText("*.a", "ann", "a", "bob", "b", who)
	for n := range len(right) {
		noGetList(t, right[:n])
	}
	noGetList(t, right+"\x00")
	for n := range 256 {
		if n != 3 {
			noGetList(t, string([]byte{byte(n)})+right[1:])
		}
	}
}

// modelTexts is the texts of which bytes consist from some place on; false if they don't.
func modelTexts(b []byte) (all []string, ok bool) {
	for len(b) > 0 {
		n := int(b[0])
		if len(b) < 1+n {
			return nil, false
		}
		all = append(all, string(b[1:1+n]))
		b = b[1+n:]
	}
	return all, true
}

// wantAsModel holds GetDeed and GetList against the bytes' texts, and what they answer against the bytes. Patterns of one label alone are right here.
func wantAsModel(t *testing.T, b []byte) (deed, list bool) {
	t.Helper()
	if len(b) == 0 {
		return false, false
	}
	texts, ok := modelTexts(b[1:])
	rising := ok
	for i, s := range texts {
		switch {
		case i%2 == 0:
			ok = ok && strings.Trim(s, "abcdefghijklmnopqrstuvwxyz0123456789") == "" && len(s) > 0 && len(s) < 17
			rising = rising && (i == 0 || texts[i-2] < s)
		default:
			ok = ok && len(s) > 0 && len(s) < 17
		}
	}
	deed = ok && len(texts) == 2 && (b[0] == 1 || b[0] == 2)
	list = ok && rising && len(texts) == 2*int(b[0]) && len(texts) <= 64
	if deed {
		wantDeed(t, api.Deed{Release: b[0] == 2, Name: texts[0], Owner: texts[1]}, string(b))
	} else {
		noGetDeed(t, string(b))
	}
	if list {
		wantListBytes(t, pairs(texts...), string(b))
	} else {
		noGetList(t, string(b))
	}
	return deed, list
}

// P9.1: all short rows out of the bytes that matter.
func TestShortBytes(t *testing.T) {
	deeds, lists := 0, 0
	last := [][]byte{nil}
	for range 10 {
		var next [][]byte
		for _, b := range last {
			deed, list := wantAsModel(t, b)
			if deed {
				deeds++
			}
			if list {
				lists++
			}
			for _, c := range []byte{0, 1, 2, 'a'} {
				next = append(next, append(bytes.Clone(b), c))
			}
		}
		last = next
	}
	if deeds == 0 || lists == 0 {
		t.Errorf("%d deeds, %d lists", deeds, lists)
	}
}

// P9.1: rows by chance that are often right, or nearly so.
func TestManyBytes(t *testing.T) {
	r := rand.New(rand.NewSource(9))
	deeds, lists := 0, 0
	for range 60000 {
		n := r.Intn(4)
		set := map[string]bool{}
		for range n {
			set[string([]byte{"ab"[r.Intn(2)], "ab"[r.Intn(2)], "ab"[r.Intn(2)]}[:1+r.Intn(3)])] = true
		}
		var words []string
		for s := range set {
			words = append(words, s)
		}
		slices.Sort(words)
		b := []byte{byte(len(words))}
		if r.Intn(4) == 0 {
			b[0] = byte(r.Intn(4))
		}
		for _, s := range words {
			b = append(b, text(s)+text(strings.Repeat("o", r.Intn(18)))...)
		}
		switch r.Intn(4) {
		case 0:
			b[r.Intn(len(b))] ^= byte(1 << r.Intn(8))
		case 1:
			b = b[:r.Intn(len(b)+1)]
		}
		deed, list := wantAsModel(t, b)
		if deed {
			deeds++
		}
		if list {
			lists++
		}
	}
	if deeds < 1000 || lists < 10000 {
		t.Errorf("%d deeds, %d lists", deeds, lists)
	}
}
