package sock_test

import (
	"bytes"
	"math"
	"testing"

	"jackfield/api"
	"jackfield/sock"
)

func newPair(t *testing.T, room int) *sock.Pair {
	t.Helper()
	p, err := sock.New(room)
	if err != nil || p == nil {
		t.Fatalf("New(%d) = %v, %v", room, p, err)
	}
	return p
}

func write(t *testing.T, p *sock.Pair, end int, text string, want int) {
	t.Helper()
	if n, err := p.Write(end, []byte(text)); n != want || err != nil {
		t.Fatalf("Write(%d, %q) = %d, %v; want %d", end, text, n, err, want)
	}
}

func carry(t *testing.T, p *sock.Pair, end, n, want int) {
	t.Helper()
	if got, err := p.Carry(end, n); got != want || err != nil {
		t.Fatalf("Carry(%d, %d) = %d, %v; want %d", end, n, got, err, want)
	}
}

func read(t *testing.T, p *sock.Pair, end, n int, want string) {
	t.Helper()
	if b, err := p.Read(end, n); string(b) != want || err != nil {
		t.Fatalf("Read(%d, %d) = %q, %v; want %q", end, n, b, err, want)
	}
}

func shut(t *testing.T, p *sock.Pair, end int) {
	t.Helper()
	if err := p.Shut(end); err != nil {
		t.Fatalf("Shut(%d) = %v", end, err)
	}
}

func wantEnded(t *testing.T, p *sock.Pair, zero, one bool) {
	t.Helper()
	if p.Ended(0) != zero || p.Ended(1) != one {
		t.Fatalf("Ended = %v, %v; want %v, %v", p.Ended(0), p.Ended(1), zero, one)
	}
}

// wantCounts asks for the room, the flight and the inbox of both ends.
func wantCounts(t *testing.T, p *sock.Pair, want [2][3]int) {
	t.Helper()
	for end := range 2 {
		if got := [3]int{p.Room(end), p.Flight(end), p.Inbox(end)}; got != want[end] {
			t.Fatalf("Room, Flight, Inbox of %d = %v, want %v", end, got, want[end])
		}
	}
}

// wantErrors makes each call that can fail, and asks for its error and for nothing beside it.
func wantErrors(t *testing.T, p *sock.Pair, end, n int, writeErr, shutErr, carryErr, readErr error) {
	t.Helper()
	for _, b := range [][]byte{nil, {}, []byte("abc")} {
		if m, err := p.Write(end, b); m != 0 || err != writeErr {
			t.Errorf("Write(%d, %q) = %d, %v; want %v", end, b, m, err, writeErr)
		}
	}
	if err := p.Shut(end); err != shutErr {
		t.Errorf("Shut(%d) = %v, want %v", end, err, shutErr)
	}
	if m, err := p.Carry(end, n); m != 0 || err != carryErr {
		t.Errorf("Carry(%d, %d) = %d, %v; want %v", end, n, m, err, carryErr)
	}
	if b, err := p.Read(end, n); len(b) != 0 || err != readErr {
		t.Errorf("Read(%d, %d) = %q, %v; want %v", end, n, b, err, readErr)
	}
}

// P3.1: the chapter's example.
func TestExample(t *testing.T) {
	p := newPair(t, 4)
	write(t, p, 0, "abcdef", 4)
	carry(t, p, 0, 3, 3)
	read(t, p, 1, 2, "ab")
	wantCounts(t, p, [2][3]int{{2, 1, 0}, {4, 0, 1}})
	p.Cut()
	read(t, p, 1, 9, "c")
	if b, err := p.Read(1, 9); len(b) != 0 || err != api.ErrBroken {
		t.Errorf("Read(1, 9) = %q, %v; want ErrBroken", b, err)
	}
}

// P3.1: which rooms there are.
func TestRooms(t *testing.T) {
	for _, room := range []int{math.MinInt, -api.MaxRoom, -1, 0, api.MaxRoom + 1, math.MaxInt32, math.MaxInt} {
		if p, err := sock.New(room); p != nil || err != api.ErrRange {
			t.Errorf("New(%d) = %v, %v; want ErrRange", room, p, err)
		}
	}
	for _, room := range []int{1, 2, api.MaxRoom - 1, api.MaxRoom} {
		p := newPair(t, room)
		wantCounts(t, p, [2][3]int{{room, 0, 0}, {room, 0, 0}})
		wantEnded(t, p, false, false)
		if p.Broken() {
			t.Errorf("New(%d): Broken", room)
		}
		read(t, p, 0, 9, "")
		carry(t, p, 0, 9, 0)
		b := bytes.Repeat([]byte("x"), room+1)
		for end := range 2 {
			if n, err := p.Write(end, b); n != room || err != nil {
				t.Errorf("room %d: Write(%d, %d bytes) = %d, %v", room, end, len(b), n, err)
			}
			write(t, p, end, "y", 0)
		}
		wantCounts(t, p, [2][3]int{{0, room, 0}, {0, room, 0}})
	}
}

// P3.1: what is written takes room until it is read; carrying it gives none back.
func TestRoomIsBothHalves(t *testing.T) {
	p := newPair(t, 3)
	write(t, p, 1, "abcd", 3)
	carry(t, p, 1, 2, 2)
	write(t, p, 1, "x", 0)
	wantCounts(t, p, [2][3]int{{3, 0, 2}, {0, 1, 0}})
	read(t, p, 0, 1, "a")
	write(t, p, 1, "de", 1)
	carry(t, p, 1, math.MaxInt, 2)
	read(t, p, 0, math.MaxInt, "bcd")
	wantCounts(t, p, [2][3]int{{3, 0, 0}, {3, 0, 0}})
}

// P3.1: an end that is neither 0 nor 1, a negative count: ErrRange, ahead of all other errors.
func TestWrongRange(t *testing.T) {
	ends := []int{-1, 2, 3, -2, math.MinInt, math.MaxInt}
	prepare := []func(p *sock.Pair){
		func(p *sock.Pair) {},
		func(p *sock.Pair) { p.Shut(0); p.Shut(1) },
		func(p *sock.Pair) { p.Cut() },
		func(p *sock.Pair) { p.Shut(0); p.Shut(1); p.Cut() },
	}
	for _, f := range prepare {
		p := newPair(t, 4)
		write(t, p, 0, "ab", 2)
		carry(t, p, 0, 1, 1)
		f(p)
		room, flight, inbox := p.Room(0), p.Flight(0), p.Inbox(1)
		for _, end := range ends {
			for _, n := range []int{0, 1, -1, math.MinInt, math.MaxInt} {
				wantErrors(t, p, end, n, api.ErrRange, api.ErrRange, api.ErrRange, api.ErrRange)
			}
			if p.Ended(end) || p.Room(end) != 0 || p.Flight(end) != 0 || p.Inbox(end) != 0 {
				t.Errorf("end %d: %v, %d, %d, %d", end, p.Ended(end), p.Room(end), p.Flight(end), p.Inbox(end))
			}
		}
		for end := range 2 {
			for _, n := range []int{-1, -2, math.MinInt} {
				if m, err := p.Carry(end, n); m != 0 || err != api.ErrRange {
					t.Errorf("Carry(%d, %d) = %d, %v; want ErrRange", end, n, m, err)
				}
				if b, err := p.Read(end, n); len(b) != 0 || err != api.ErrRange {
					t.Errorf("Read(%d, %d) = %q, %v; want ErrRange", end, n, b, err)
				}
			}
		}
		if p.Room(0) != room || p.Flight(0) != flight || p.Inbox(1) != inbox {
			t.Errorf("refused calls changed the pair")
		}
	}
}

// P3.1: a cut pair: ErrBroken, ahead of ErrState; Read only when the inbox is empty.
func TestWrongCut(t *testing.T) {
	for shuts := range 4 {
		p := newPair(t, 4)
		for end := range 2 {
			if shuts>>end&1 > 0 {
				shut(t, p, end)
			}
		}
		p.Cut()
		for end := range 2 {
			for _, n := range []int{0, 1, math.MaxInt} {
				wantErrors(t, p, end, n, api.ErrBroken, api.ErrBroken, api.ErrBroken, api.ErrBroken)
			}
		}
		wantCounts(t, p, [2][3]int{})
	}

	p := newPair(t, 4)
	write(t, p, 0, "abc", 3)
	carry(t, p, 0, 2, 2)
	p.Cut()
	wantErrors(t, p, 1, 0, api.ErrBroken, api.ErrBroken, api.ErrBroken, nil)
	wantCounts(t, p, [2][3]int{{0, 0, 0}, {0, 0, 2}})
	read(t, p, 1, 1, "a")
	read(t, p, 1, 0, "")
	read(t, p, 1, 1, "b")
	wantErrors(t, p, 1, 0, api.ErrBroken, api.ErrBroken, api.ErrBroken, api.ErrBroken)
}

// P3.1: a shut end writes no more, not even no bytes; all else goes on, the other end's writing too.
func TestShut(t *testing.T) {
	p := newPair(t, 4)
	write(t, p, 0, "abc", 3)
	shut(t, p, 0)
	for _, b := range [][]byte{nil, {}, []byte("x")} {
		if n, err := p.Write(0, b); n != 0 || err != api.ErrState {
			t.Errorf("Write(0, %q) = %d, %v; want ErrState", b, n, err)
		}
	}
	wantCounts(t, p, [2][3]int{{0, 3, 0}, {4, 0, 0}})
	shut(t, p, 0)
	write(t, p, 1, "xyz", 3)
	carry(t, p, 0, 2, 2)
	carry(t, p, 1, 9, 3)
	read(t, p, 0, 9, "xyz")
	read(t, p, 1, 9, "ab")
	wantEnded(t, p, false, false)
	carry(t, p, 0, 9, 1)
	wantEnded(t, p, false, false)
	read(t, p, 1, 9, "c")
	wantEnded(t, p, false, true)
	read(t, p, 1, 9, "")
	shut(t, p, 1)
	wantEnded(t, p, true, true)
}

// P3.1: a cut pair's end has ended by what was so at the moment of the cut, and when its inbox is empty.
func TestEndedAfterCut(t *testing.T) {
	for _, c := range []struct {
		name  string
		carry int
		shut  bool
		ended bool
	}{
		{"shut, all carried", 3, true, true},
		{"shut, some in flight", 2, true, false},
		{"shut, all in flight", 0, true, false},
		{"open, all carried", 3, false, false},
		{"open, some in flight", 2, false, false},
	} {
		p := newPair(t, 4)
		write(t, p, 0, "abc", 3)
		carry(t, p, 0, c.carry, c.carry)
		if c.shut {
			shut(t, p, 0)
		}
		p.Cut()
		p.Cut()
		if c.carry > 0 {
			wantEnded(t, p, false, false)
			read(t, p, 1, 9, "abc"[:c.carry])
		}
		p.Cut()
		if p.Ended(1) != c.ended || p.Ended(0) {
			t.Errorf("%s: Ended = %v, %v; want false, %v", c.name, p.Ended(0), p.Ended(1), c.ended)
		}
		if p.Shut(0) != api.ErrBroken || p.Ended(1) != c.ended {
			t.Errorf("%s: Shut after the cut changed it", c.name)
		}
		if b, err := p.Read(1, 9); len(b) != 0 || err != api.ErrBroken || !p.Broken() {
			t.Errorf("%s: Read(1, 9) = %q, %v; want ErrBroken", c.name, b, err)
		}
	}
}

// Rule 4: what is written is neither changed nor kept, and what was read is nobody else's.
func TestOwnMemory(t *testing.T) {
	p, other := newPair(t, 8), newPair(t, 8)
	backing := []byte("abcdefgh")
	if n, err := p.Write(0, backing[:3]); n != 3 || err != nil {
		t.Fatal(n, err)
	}
	if string(backing) != "abcdefgh" {
		t.Errorf("Write changed its argument: %q", backing)
	}
	copy(backing, "????????")
	carry(t, p, 0, 9, 3)
	first, err := p.Read(1, 2)
	if string(first) != "ab" || err != nil {
		t.Fatalf("Read(1, 2) = %q, %v", first, err)
	}
	for i := range first {
		first[i] = '!'
	}
	_ = append(first[:cap(first)], "!!!!"...)
	_ = append(first, "!!!!"...)
	write(t, p, 0, "de", 2)
	_ = append(first, "!!!!"...)
	carry(t, p, 0, 9, 2)
	second, err := p.Read(1, 9)
	if string(second) != "cde" || err != nil {
		t.Fatalf("Read(1, 9) = %q, %v; want cde", second, err)
	}
	write(t, p, 0, "12345678", 8)
	carry(t, p, 0, 9, 8)
	if string(first) != "!!" || string(second) != "cde" {
		t.Errorf("what was read has changed: %q, %q", first, second)
	}
	wantCounts(t, other, [2][3]int{{8, 0, 0}, {8, 0, 0}})
}

// P3.2: a great many bytes through a great pair, one at a time and all at once.
func TestGreatPair(t *testing.T) {
	p := newPair(t, api.MaxRoom)
	var sent, got []byte
	for i := range 3 * api.MaxRoom {
		b := []byte{byte(i), byte(i >> 8), byte(i >> 16)}
		n, err := p.Write(1, b)
		if err != nil || n != min(3, api.MaxRoom-(len(sent)-len(got))) {
			t.Fatalf("Write = %d, %v, with %d bytes under way", n, err, len(sent)-len(got))
		}
		sent = append(sent, b[:n]...)
		carry(t, p, 1, 1, 1)
		b, err = p.Read(0, 1)
		if err != nil {
			t.Fatal(err)
		}
		got = append(got, b...)
	}
	shut(t, p, 1)
	carry(t, p, 1, math.MaxInt, len(sent)-len(got))
	b, err := p.Read(0, math.MaxInt)
	if got = append(got, b...); err != nil || !bytes.Equal(got, sent) || !p.Ended(0) {
		t.Errorf("%d bytes of %d, %v, Ended = %v", len(got), len(sent), err, p.Ended(0))
	}
}
