package proof_test

import (
	"bytes"
	"crypto/hmac"
	"crypto/sha256"
	"encoding/binary"
	"math"
	"math/rand"
	"slices"
	"strings"
	"testing"

	"jackfield/api"
	"jackfield/proof"
)

// The model says the chapter a second time, by the library's HMAC; the tests below hold the package against it.

func sumOf(key []byte, parts ...any) []byte {
	m := hmac.New(sha256.New, key)
	for _, part := range parts {
		switch x := part.(type) {
		case string:
			m.Write([]byte(x))
		default:
			binary.Write(m, binary.BigEndian, x)
		}
	}
	return m.Sum(nil)
}

func secret(b []byte) bool { return len(b) > 0 && len(b) < 65 }

func named(who string) bool { return who != "" && len(who) < 17 }

func numbered(n int) bool { return n > -1 && n < 1<<40+1 }

func modelNonce(key []byte, n int) ([]byte, error) {
	if !secret(key) || !numbered(n) {
		return nil, api.ErrRange
	}
	return sumOf(key, "n", int64(n))[:16], nil
}

func modelProve(token, nonce []byte, who string) ([]byte, error) {
	if !secret(token) || len(nonce) != 16 || !named(who) {
		return nil, api.ErrRange
	}
	return sumOf(token, "p", uint16(len(nonce)), nonce, uint8(len(who)), who), nil
}

// signed is a ticket's bytes, whatever the number.
func signed(key []byte, who string, number uint64) []byte {
	seal := sumOf(key, "t", uint8(len(who)), who, number)[:24]
	return append(binary.BigEndian.AppendUint64(nil, number), seal...)
}

func modelTicket(key []byte, who string, link int) ([]byte, error) {
	if !secret(key) || !named(who) || !numbered(link) {
		return nil, api.ErrRange
	}
	return signed(key, who, uint64(link)), nil
}

func modelOpen(key []byte, who string, ticket []byte) (int, error) {
	if !secret(key) || !named(who) {
		return 0, api.ErrRange
	}
	if len(ticket) != 32 {
		return 0, api.ErrProof
	}
	number := binary.BigEndian.Uint64(ticket)
	if number > 1<<40 || !bytes.Equal(ticket, signed(key, who, number)) {
		return 0, api.ErrProof
	}
	return int(number), nil
}

// wantSame holds what a call answered against the model's answer; beside an error there are no bytes.
func wantSame(t *testing.T, call string, got []byte, err error, want []byte, wantErr error) {
	t.Helper()
	if !bytes.Equal(got, want) || err != wantErr {
		t.Errorf("%s = %x, %v, want %x, %v", call, got, err, want, wantErr)
	}
}

func wantNonce(t *testing.T, key []byte, n int) {
	t.Helper()
	got, err := proof.Nonce(key, n)
	want, wantErr := modelNonce(key, n)
	wantSame(t, "Nonce", got, err, want, wantErr)
}

func wantProve(t *testing.T, token, nonce []byte, who string) {
	t.Helper()
	got, err := proof.Prove(token, nonce, who)
	want, wantErr := modelProve(token, nonce, who)
	wantSame(t, "Prove", got, err, want, wantErr)
	wantRight(t, token, nonce, who, want, wantErr == nil)
}

func wantRight(t *testing.T, token, nonce []byte, who string, p []byte, want bool) {
	t.Helper()
	if got := proof.Right(token, nonce, who, p); got != want {
		t.Errorf("Right(%x, %x, %q, %x) = %v", token, nonce, who, p, got)
	}
}

func wantOpen(t *testing.T, key []byte, who string, ticket []byte) {
	t.Helper()
	got, err := proof.Open(key, who, ticket)
	want, wantErr := modelOpen(key, who, ticket)
	if got != want || err != wantErr {
		t.Errorf("Open(%x, %q, %x) = %d, %v, want %d, %v", key, who, ticket, got, err, want, wantErr)
	}
}

func wantTicket(t *testing.T, key []byte, who string, link int) {
	t.Helper()
	got, err := proof.Ticket(key, who, link)
	want, wantErr := modelTicket(key, who, link)
	wantSame(t, "Ticket", got, err, want, wantErr)
	wantOpen(t, key, who, want)
}

// sizes are the edges of what has a number of bytes, and what lies between and beyond them.
var sizes = []int{0, 1, 2, 15, 16, 17, 18, 31, 32, 33, 63, 64, 65, 66, 127, 128, 255, 256, 257, 300, 65535, 65536, 65537}

var numbers = []int{
	math.MinInt, math.MinInt + 1, -1 << 40, -256, -2, -1,
	0, 1, 2, 7, 255, 256, 257, 65535, 65536, 1<<31 - 1, 1 << 31, 1<<32 - 1, 1 << 32, 1<<40 - 256, 1<<40 - 1,
	1 << 40, 1<<40 + 1, 1<<40 + 7, 1 << 41, 1 << 48, 1 << 56, 1<<62 + 7, math.MaxInt - 1, math.MaxInt,
}

// P10.1: every size of a key and a token with every edge of a number, a nonce and a name.
func TestSizesAgainstModel(t *testing.T) {
	key, who := []byte("key"), "ann/0"
	nonce := some(16)
	for n := range 70 {
		wantProve(t, some(n), nonce, who)
		wantProve(t, key, some(n), who)
		wantProve(t, key, nonce, string(some(n)))
		wantTicket(t, key, string(some(n)), 7)
		wantOpen(t, key, who, some(n))
		for _, number := range numbers {
			wantNonce(t, some(n), number)
			wantTicket(t, some(n), who, number)
		}
	}
	for _, a := range sizes {
		for _, b := range sizes {
			wantTicket(t, some(a), string(some(b)), 7)
			for _, c := range sizes[:12] {
				wantProve(t, some(a), some(c), string(some(b)))
			}
		}
	}
}

// P10.1: texts and keys of any bytes; a name's bytes are counted, not its characters.
func TestAnyBytes(t *testing.T) {
	nonce := make([]byte, 16)
	for x := range 256 {
		b := []byte{byte(x)}
		wantNonce(t, b, x)
		wantProve(t, b, bytes.Repeat(b, 16), string(b))
		wantTicket(t, b, string(b), x)
	}
	for _, who := range []string{"é", strings.Repeat("é", 8), strings.Repeat("é", 9), strings.Repeat("\xff", 16), strings.Repeat("\x00", 17), "a b", "\n", "*.a", strings.Repeat("日", 6)} {
		wantProve(t, nonce, nonce, who)
		wantTicket(t, nonce, who, 1)
	}
}

// P10.1: calls by chance, with arguments most of which are right.
func TestByChance(t *testing.T) {
	r := rand.New(rand.NewSource(10))
	pick := func(right, wrong int) []byte {
		n := right
		if r.Intn(8) == 0 {
			n = wrong
		}
		b := make([]byte, n)
		r.Read(b)
		return b
	}
	for range 20000 {
		key := pick(1+r.Intn(64), 65+r.Intn(9))
		nonce := pick(16, r.Intn(40))
		who := string(pick(1+r.Intn(16), 17+r.Intn(9)))
		number := int(r.Uint64() >> r.Intn(64))
		wantNonce(t, key, number)
		wantProve(t, key, nonce, who)
		wantTicket(t, key, who, number)
		wantOpen(t, key, who, spoilt(r, signed(key, who, uint64(number))))
	}
}

// spoilt is a ticket, or what is left of it when one thing of it was changed.
func spoilt(r *rand.Rand, b []byte) []byte {
	at := r.Intn(len(b))
	switch r.Intn(6) {
	case 0:
		return b
	case 1:
		return b[:at]
	case 2:
		return slices.Insert(b, at, byte(r.Intn(256)))
	case 3:
		return slices.Delete(b, at, at+1)
	case 4:
		return append(b[at:], b[:at]...)
	}
	b[at] ^= 1 << r.Intn(8)
	return b
}
