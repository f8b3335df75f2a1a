package scan_test

import (
	"bytes"
	"math"
	"testing"

	"jackfield/api"
	"jackfield/frame"
	"jackfield/scan"
)

func bytesOf(n int) []byte {
	b := make([]byte, n)
	for i := range b {
		b[i] = byte(i*7 + 1)
	}
	return b
}

func joined(parts ...[]byte) []byte { return bytes.Join(parts, nil) }

func put(t *testing.T, f api.Frame) []byte {
	t.Helper()
	b, err := frame.Put(f)
	if err != nil {
		t.Fatalf("Put(%+v): %v", f, err)
	}
	return b
}

// kinds has a frame of each kind, and the longest and the shortest ones.
func kinds() []api.Frame {
	return []api.Frame{
		{Kind: api.FHello, Who: "ann/0", Got: 5, Bytes: []byte("ticket")},
		{Kind: api.FChallenge, Bytes: bytesOf(32)},
		{Kind: api.FProof, Bytes: bytesOf(32)},
		{Kind: api.FWelcome, Got: 1, Bytes: []byte{0}},
		{Kind: api.FRefuse, Code: api.CodeProof},
		{Kind: api.FAck, Got: api.MaxTime},
		{Kind: api.FOpen, Seq: 1, Stream: 1, Name: "shop"},
		{Kind: api.FAccept, Seq: 2, Stream: 1},
		{Kind: api.FData, Seq: 3, Stream: 1, Bytes: bytesOf(api.MaxData)},
		{Kind: api.FData, Seq: 4, Stream: 1, Bytes: []byte{0}},
		{Kind: api.FCredit, Seq: 5, Stream: 1, Amount: 512},
		{Kind: api.FEnd, Seq: 6, Stream: 1},
		{Kind: api.FReset, Seq: 7, Stream: 1, Code: api.CodePeer},
		{Kind: api.FRegister, Seq: 8, Name: "shop", Weight: math.NaN()},
		{Kind: api.FDrain, Seq: 9, Name: "*.shop"},
		{Kind: api.FReserve, Seq: 10, Who: "ann", Name: "shop"},
		{Kind: api.FRelease, Seq: 11, Who: "ann", Name: "shop"},
		{Kind: api.FAnswer, Seq: 12, Code: api.CodeOwner, Name: "shop"},
	}
}

func wantFeed(t *testing.T, s *scan.Scanner, b []byte, err error, want ...api.Frame) {
	t.Helper()
	if l, e := s.Feed(b); e != err || !sameFrames(l, want) {
		t.Fatalf("Feed(%x) = %+v, %v; want %+v, %v", b, l, e, want, err)
	}
}

func wantState(t *testing.T, s *scan.Scanner, held int, broken bool) {
	t.Helper()
	if s.Held() != held || s.Broken() != broken {
		t.Fatalf("Held %d, Broken %v; want %d, %v", s.Held(), s.Broken(), held, broken)
	}
}

func wantSplit(t *testing.T, b []byte, n int, err error, want ...api.Frame) {
	t.Helper()
	if l, k, e := scan.Split(b); e != err || k != n || !sameFrames(l, want) {
		t.Fatalf("Split(%x) = %+v, %d, %v; want %+v, %d, %v", b, l, k, e, want, n, err)
	}
}

// P6.1: the chapter's examples.
func TestExamples(t *testing.T) {
	f := api.Frame{Kind: api.FAck, Got: 7}
	b := put(t, f)
	s := scan.New()
	for i := range 14 {
		wantFeed(t, s, b[i:i+1], nil)
		wantState(t, s, i+1, false)
	}
	wantFeed(t, s, b[14:], nil, f)
	wantState(t, s, 0, false)

	wantFeed(t, s, []byte{0, 0}, api.ErrFrame)
	wantState(t, s, 0, true)
}

// P6.1: a new scanner, and no bytes.
func TestNothing(t *testing.T) {
	s := scan.New()
	wantState(t, s, 0, false)
	wantFeed(t, s, nil, nil)
	wantFeed(t, s, []byte{}, nil)
	wantState(t, s, 0, false)
	wantFeed(t, s, []byte{0}, nil)
	wantFeed(t, s, nil, nil)
	wantState(t, s, 1, false)
	wantSplit(t, nil, 0, nil)
	wantSplit(t, []byte{}, 0, nil)
}

// P6.1: frames come in order, each once, those that end in a piece with it, and the beginning of one is held from piece to piece.
func TestOrder(t *testing.T) {
	all := kinds()
	a, b, c := put(t, all[0]), put(t, all[5]), put(t, all[8])
	s := scan.New()
	wantFeed(t, s, joined(a, b, c[:9]), nil, all[0], all[5])
	wantState(t, s, 9, false)
	wantFeed(t, s, c[9:500], nil)
	wantState(t, s, 500, false)
	wantFeed(t, s, joined(c[500:], b, b, a[:1]), nil, all[8], all[5], all[5])
	wantState(t, s, 1, false)
	wantFeed(t, s, a[1:], nil, all[0])
	wantState(t, s, 0, false)
	for _, f := range all {
		wantFeed(t, s, put(t, f), nil, f)
		wantState(t, s, 0, false)
		wantSplit(t, put(t, f), len(put(t, f)), nil, f)
	}
}

// P6.1: every number that the first two bytes may give: it is wrong as soon as both have arrived, at once or one by one, or not yet.
func TestEveryHead(t *testing.T) {
	for n := range 1 << 16 {
		head := []byte{byte(n >> 8), byte(n)}
		one, two := scan.New(), scan.New()
		wantFeed(t, one, head[:1], nil)
		wantState(t, one, 1, false)
		if n+6 < 7 || n+6 > 1024 {
			wantFeed(t, one, head[1:], api.ErrFrame)
			wantFeed(t, two, head, api.ErrFrame)
			wantState(t, one, 0, true)
			wantState(t, two, 0, true)
			wantSplit(t, head, 0, api.ErrFrame)
			continue
		}
		wantFeed(t, one, head[1:], nil)
		wantFeed(t, two, head, nil)
		wantState(t, one, 2, false)
		wantState(t, two, 2, false)
		wantSplit(t, head, 0, nil)
	}
}

// P6.1, P6.2: bytes that are no valid frame, of every size that a frame may have, are wrong with the last of them and not before.
func TestWrongAtTheEnd(t *testing.T) {
	for size := 7; size <= api.MaxFrame; size++ {
		body := bytesOf(size - 6)
		body[0] = 0
		b := sealed(body)
		s := scan.New()
		wantFeed(t, s, b[:size-1], nil)
		wantState(t, s, size-1, false)
		wantFeed(t, s, b[size-1:], api.ErrFrame)
		wantState(t, s, 0, true)
		wantSplit(t, b[:size-1], 0, nil)
		wantSplit(t, b, 0, api.ErrFrame)
		wantSplit(t, append(b, 0, 9), 0, api.ErrFrame)
	}
}

// P6.1: a frame of each kind with one bit changed behind its first two bytes is wrong, and what was ahead of it is returned.
func TestWrongBits(t *testing.T) {
	first := api.Frame{Kind: api.FAck, Got: 1}
	ahead := put(t, first)
	for _, f := range kinds() {
		for i := 2; i < len(put(t, f)); i++ {
			b := put(t, f)
			b[i] ^= 1 << (i % 8)
			s := scan.New()
			wantFeed(t, s, joined(ahead, b, ahead), api.ErrFrame, first)
			wantState(t, s, 0, true)
			wantSplit(t, joined(ahead, b, ahead), len(ahead), api.ErrFrame, first)
		}
	}
}

// P6.1: a frame that the layout allows and whose check is right is wrong if it isn't valid.
func TestInvalidFrames(t *testing.T) {
	const one, zero = "\x00\x00\x00\x00\x00\x00\x00\x01", "\x00\x00\x00\x00\x00\x00\x00\x00"
	for _, body := range []string{"\x05\x0e", "\x08" + zero + "\x00\x00\x00\x01", "\x08" + one + zero[:4], "\x09" + one + "\x00\x00\x00\x01\x00\x00", "\x06" + one + "\x00", "\x06", "\x12" + one} {
		wantFeed(t, scan.New(), sealed([]byte(body)), api.ErrFrame)
	}
}

// P6.1: the frames ahead of a wrong one are returned with the error, those of this piece alone.
func TestFramesAheadOfAWrongOne(t *testing.T) {
	all := kinds()
	a, b := put(t, all[5]), put(t, all[6])
	s := scan.New()
	wantFeed(t, s, joined(a, b[:4]), nil, all[5])
	wantFeed(t, s, joined(b[4:], a, []byte{0xff, 0xff}, a), api.ErrFrame, all[6], all[5])
	wantState(t, s, 0, true)
	wantSplit(t, joined(a, b, a, []byte{0, 0}, a), 2*len(a)+len(b), api.ErrFrame, all[5], all[6], all[5])
	wantSplit(t, joined(a, b, a[:7]), len(a)+len(b), nil, all[5], all[6])
	wantSplit(t, joined(a, []byte{0}), len(a), nil, all[5])
}

// P6.1: a broken scanner stays so, whatever it is fed, and another one isn't touched.
func TestBroken(t *testing.T) {
	f := api.Frame{Kind: api.FAck, Got: 7}
	b := put(t, f)
	bad := put(t, f)
	bad[14] ^= 1
	for _, wrong := range [][]byte{{0, 0}, {0xff, 0xff}, {0x03, 0xfb}, bad, sealed([]byte{0})} {
		s, other := scan.New(), scan.New()
		wantFeed(t, other, b[:3], nil)
		wantFeed(t, s, wrong, api.ErrFrame)
		for _, more := range [][]byte{nil, {}, b, {0}, {0, 0}, wrong, b[:5]} {
			wantFeed(t, s, more, api.ErrBroken)
			wantState(t, s, 0, true)
		}
		wantFeed(t, other, b[3:], nil, f)
		wantState(t, other, 0, false)
	}
}

// Rule 4: a piece isn't changed, nor its unused capacity, and isn't kept: it may be overwritten as soon as Feed is back.
func TestPiecesAreTheCallers(t *testing.T) {
	f := api.Frame{Kind: api.FData, Seq: 1, Stream: 1, Bytes: bytesOf(100)}
	stream := joined(put(t, f), put(t, f))
	for size := 1; size <= len(stream); size++ {
		s := scan.New()
		var found []api.Frame
		for at := 0; at < len(stream); at += size {
			end := min(len(stream), at+size)
			room := append(append([]byte{0xee}, stream[at:end]...), 0xee, 0xee, 0xee)
			before := bytes.Clone(room)
			l, err := s.Feed(room[1 : 1+end-at])
			if err != nil || !bytes.Equal(room, before) {
				t.Fatalf("pieces of %d: %v; %x was %x", size, err, room, before)
			}
			for i := range room {
				room[i] = 0xdd
			}
			found = append(found, l...)
		}
		if !sameFrames(found, []api.Frame{f, f}) {
			t.Fatalf("pieces of %d: %+v", size, found)
		}
	}
}

// Rule 4: frames share no memory with one another, with the scanner, or with a later answer.
func TestFramesAreNew(t *testing.T) {
	f := api.Frame{Kind: api.FData, Seq: 1, Stream: 1, Bytes: bytesOf(40)}
	b := put(t, f)
	s := scan.New()
	first, _ := s.Feed(joined(b, b, b[:30]))
	if len(first) != 2 {
		t.Fatalf("%d frames", len(first))
	}
	full := first[0].Bytes[:cap(first[0].Bytes)]
	for i := range full {
		full[i] = 0xdd
	}
	if !frame.Same(first[1], f) {
		t.Errorf("frames share their bytes: %+v", first[1])
	}
	wantFeed(t, s, b[30:], nil, f)
	if !frame.Same(first[1], f) || first[0].Bytes[39] != 0xdd {
		t.Errorf("a later piece changed frames: %+v", first)
	}
}

// P6.1, P6.2: a long stream, at once and byte by byte.
func TestManyFrames(t *testing.T) {
	var stream []byte
	const rounds = 300
	for range rounds {
		for _, f := range kinds() {
			stream = append(stream, put(t, f)...)
		}
	}
	l, k, err := scan.Split(stream)
	if err != nil || k != len(stream) || len(l) != rounds*len(kinds()) {
		t.Fatalf("Split: %d frames, %d bytes of %d, %v", len(l), k, len(stream), err)
	}
	s := scan.New()
	at := 0
	for i := range stream {
		one, err := s.Feed(stream[i : i+1])
		if err != nil || len(one) > 1 || len(one) == 1 && !frame.Same(one[0], l[at]) {
			t.Fatalf("byte %d: %+v, %v", i, one, err)
		}
		at += len(one)
	}
	if at != len(l) || s.Held() != 0 {
		t.Errorf("%d frames of %d, Held %d", at, len(l), s.Held())
	}
}
