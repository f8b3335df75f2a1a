package proof_test

import (
	"bytes"
	"encoding/hex"
	"math"
	"slices"
	"strings"
	"testing"

	"jackfield/api"
	"jackfield/proof"
)

// some is n bytes of many values.
func some(n int) []byte {
	b := make([]byte, n)
	for i := range b {
		b[i] = byte(31*i + n)
	}
	return b
}

func up(n int) []byte {
	b := make([]byte, n)
	for i := range b {
		b[i] = byte(i)
	}
	return b
}

func nonceOf(t *testing.T, key []byte, n int) []byte {
	t.Helper()
	b, err := proof.Nonce(key, n)
	if err != nil {
		t.Fatal(err)
	}
	return b
}

func proofOf(t *testing.T, token, nonce []byte, who string) []byte {
	t.Helper()
	b, err := proof.Prove(token, nonce, who)
	if err != nil {
		t.Fatal(err)
	}
	return b
}

func ticketOf(t *testing.T, key []byte, who string, link int) []byte {
	t.Helper()
	b, err := proof.Ticket(key, who, link)
	if err != nil {
		t.Fatal(err)
	}
	return b
}

func wantHex(t *testing.T, call string, got []byte, want string) {
	t.Helper()
	if hex.EncodeToString(got) != want {
		t.Errorf("%s = %x, want %s", call, got, want)
	}
}

func wantOpenError(t *testing.T, key []byte, who string, ticket []byte, want error) {
	t.Helper()
	if n, err := proof.Open(key, who, ticket); n != 0 || err != want {
		t.Errorf("Open(%x, %q, %x) = %d, %v, want %v", key, who, ticket, n, err, want)
	}
}

func wantOpened(t *testing.T, key []byte, who string, ticket []byte, want int) {
	t.Helper()
	if n, err := proof.Open(key, who, ticket); n != want || err != nil {
		t.Errorf("Open(%x, %q, %x) = %d, %v, want %d", key, who, ticket, n, err, want)
	}
}

const wholeName = "0123456789abcdef"

// P10.1: sums that another program has made.
func TestKnown(t *testing.T) {
	key, full := []byte("key"), bytes.Repeat([]byte("k"), 64)
	wantHex(t, "Nonce of 0", nonceOf(t, key, 0), "b0bd20b57d8facc0b0262f836393c950")
	wantHex(t, "Nonce of 3", nonceOf(t, key, 3), "b8d2400a3256161cf53685d8270acf5e")
	wantHex(t, "Nonce of MaxTime", nonceOf(t, full, api.MaxTime), "df06212f1fad73183c1d1ea15a6d4dcf")
	wantHex(t, "Prove by token", proofOf(t, []byte("token"), nonceOf(t, key, 3), "ann/0"), "2e383587f0dc4d1a4362388988d8c84f4b91411f847c1a346294c783f5c9c0e2")
	wantHex(t, "Prove by t", proofOf(t, []byte("t"), up(16), "a"), "5be269d096f205845d274d865f2df20cfaac19765f3ce9b5088e34bdae398003")
	wantHex(t, "Prove at the edges", proofOf(t, bytes.Repeat([]byte{0xff}, 64), make([]byte, 16), wholeName), "7b399aa51e2f7d499ae7d92554b7c634564989be509dc1d342129f1afa44b2eb")
	wantHex(t, "Ticket of 7", ticketOf(t, key, "a", 7), "0000000000000007a32315c245ce6899f529453f5563d429a5aef7b3c8d0b812")
	wantHex(t, "Ticket of 0", ticketOf(t, []byte{0}, "\x00", 0), "0000000000000000a1925cd383d8d5ec77fd0c3913c1ad6be70d2644b19f998a")
	wantHex(t, "Ticket of MaxTime", ticketOf(t, full, wholeName, api.MaxTime), "000001000000000077c9ae8407e3997ad2e9a03bdeb7e8d6a068771a4a270914")
}

// P10.1: the chapter's examples.
func TestExamples(t *testing.T) {
	key := []byte("key")
	c := ticketOf(t, key, "a", 7)
	wantOpened(t, key, "a", c, 7)
	wantOpenError(t, key, "b", c, api.ErrProof)
	if b, err := proof.Prove(key, up(15), "a"); len(b) != 0 || err != api.ErrRange {
		t.Error("a nonce of 15 bytes:", b, err)
	}
}

// P10.1: each argument that is out of its range, alone and among others; a wrong one is never right, not even for no bytes.
func TestRefused(t *testing.T) {
	key, nonce, who := []byte("key"), up(16), "a"
	keys := [][]byte{nil, {}, make([]byte, 0, 9), up(65), up(1000)}
	names := []string{"", wholeName + "0", strings.Repeat("a", 256), strings.Repeat("é", 9)}
	for _, n := range []int{-1, math.MinInt, api.MaxTime + 1, math.MaxInt} {
		b, err := proof.Nonce(key, n)
		wantSame(t, "Nonce", b, err, nil, api.ErrRange)
		b, err = proof.Ticket(key, who, n)
		wantSame(t, "Ticket", b, err, nil, api.ErrRange)
	}
	for _, k := range keys {
		b, err := proof.Nonce(k, 1)
		wantSame(t, "Nonce", b, err, nil, api.ErrRange)
		b, err = proof.Ticket(k, who, 1)
		wantSame(t, "Ticket", b, err, nil, api.ErrRange)
		b, err = proof.Prove(k, nonce, who)
		wantSame(t, "Prove", b, err, nil, api.ErrRange)
		wantNeverRight(t, k, nonce, who)
	}
	for _, w := range names {
		b, err := proof.Ticket(key, w, 1)
		wantSame(t, "Ticket", b, err, nil, api.ErrRange)
		b, err = proof.Prove(key, nonce, w)
		wantSame(t, "Prove", b, err, nil, api.ErrRange)
		wantNeverRight(t, key, nonce, w)
	}
	for _, n := range [][]byte{nil, {}, {0}, up(15), up(17), up(32)} {
		b, err := proof.Prove(key, n, who)
		wantSame(t, "Prove", b, err, nil, api.ErrRange)
		wantNeverRight(t, key, n, who)
	}
	b, err := proof.Prove(nil, nil, "")
	wantSame(t, "Prove", b, err, nil, api.ErrRange)
	wantNeverRight(t, nil, nil, "")
}

func wantNeverRight(t *testing.T, token, nonce []byte, who string) {
	t.Helper()
	sum := sumOf(token, "p", uint16(len(nonce)), nonce, uint8(len(who)), who)
	for _, p := range [][]byte{nil, {}, sum, make([]byte, 32)} {
		wantRight(t, token, nonce, who, p, false)
	}
}

// P10.1: ErrRange for the key and the name comes ahead of ErrProof, whatever the ticket is; a ticket is never out of range.
func TestOrderOfErrors(t *testing.T) {
	key, who := []byte("key"), "a"
	tickets := [][]byte{nil, {}, {7}, up(31), up(32), up(33), bytes.Repeat([]byte{0xff}, 32), ticketOf(t, key, who, 7)}
	for _, c := range tickets {
		wantOpenError(t, nil, who, c, api.ErrRange)
		wantOpenError(t, up(65), who, c, api.ErrRange)
		wantOpenError(t, key, "", c, api.ErrRange)
		wantOpenError(t, key, wholeName+"0", c, api.ErrRange)
		wantOpenError(t, nil, "", c, api.ErrRange)
		wantOpenError(t, []byte("kez"), who, c, api.ErrProof)
		wantOpenError(t, key, "b", c, api.ErrProof)
	}
	for _, c := range tickets[:len(tickets)-1] {
		wantOpenError(t, key, who, c, api.ErrProof)
	}
}

// P10.1: a number that no link has isn't opened, even if whoever wrote it has the key.
func TestNumbersBeyondLinks(t *testing.T) {
	key, who := []byte("key"), "a"
	for _, n := range []uint64{1<<40 + 1, 1<<40 + 7, 1 << 41, 1<<63 - 1, 1 << 63, 1<<63 + 7, math.MaxUint64, math.MaxUint64 - 7} {
		wantOpenError(t, key, who, signed(key, who, n), api.ErrProof)
	}
	for _, n := range []int{0, 1, 255, 256, 1 << 32, 1<<40 - 1, 1 << 40} {
		wantOpened(t, key, who, signed(key, who, uint64(n)), n)
		wantOpened(t, key, who, ticketOf(t, key, who, n), n)
	}
}

// wantChanged asks each change of one byte of b, and b longer and shorter than it was.
func wantChanged(b []byte, ask func(changed []byte)) {
	for at := range b {
		changed := slices.Clone(b)
		for by := 1; by < 256; by++ {
			changed[at] = b[at] ^ byte(by)
			ask(changed)
		}
		ask(b[:at])
		ask(b[at+1:])
		ask(slices.Delete(slices.Clone(b), at, at+1))
	}
	for _, x := range []byte{0, 1, b[0], 0xff} {
		ask(append(slices.Clone(b), x))
		ask(append([]byte{x}, b...))
	}
	ask(append(slices.Clone(b), b...))
}

// P10.2: a proof is right; if a byte of it is changed, it is not.
func TestChangedProofs(t *testing.T) {
	for _, who := range []string{"a", "ann/0", wholeName} {
		for _, token := range [][]byte{{0}, []byte("token"), some(64)} {
			for _, nonce := range [][]byte{make([]byte, 16), nonceOf(t, token, 3)} {
				p := proofOf(t, token, nonce, who)
				wantRight(t, token, nonce, who, p, true)
				wantChanged(p, func(b []byte) { wantRight(t, token, nonce, who, b, false) })
			}
		}
	}
}

// P10.2: a ticket is opened; if a byte of it is changed, be it one of the number, it is not.
func TestChangedTickets(t *testing.T) {
	for _, who := range []string{"a", "ann/0", wholeName} {
		for _, key := range [][]byte{{0}, []byte("key"), some(64)} {
			for _, link := range []int{0, 7, api.MaxTime} {
				c := ticketOf(t, key, who, link)
				wantOpened(t, key, who, c, link)
				wantChanged(c, func(b []byte) { wantOpenError(t, key, who, b, api.ErrProof) })
			}
		}
	}
}

// P10.2: what is right for one token, nonce and name, or key, name and number, is right for no other one.
func TestOfNoOther(t *testing.T) {
	type use struct {
		key    string
		who    string
		number int
	}
	var uses []use
	// Keys that differ by bytes 0 at their end alone have the same sums, so there is none among these.
	for _, key := range []string{"k", "key", "keys", "\x01", strings.Repeat("k", 64)} {
		for _, who := range []string{"a", "b", "aa", "a\x00", "\x00a", wholeName} {
			for _, number := range []int{0, 1, 256, api.MaxTime} {
				uses = append(uses, use{key, who, number})
			}
		}
	}
	all := map[string]bool{}
	for _, u := range uses {
		key := []byte(u.key)
		nonce := nonceOf(t, key, u.number)
		p, c := proofOf(t, key, nonce, u.who), ticketOf(t, key, u.who, u.number)
		all[string(p)], all[string(c)] = true, true
		for _, v := range uses {
			other := nonceOf(t, []byte(v.key), v.number)
			wantRight(t, []byte(v.key), other, v.who, p, u == v)
			if u.key == v.key && u.who == v.who {
				wantOpened(t, []byte(v.key), v.who, c, u.number)
			} else {
				wantOpenError(t, []byte(v.key), v.who, c, api.ErrProof)
			}
		}
	}
	if len(all) != 2*len(uses) {
		t.Errorf("%d proofs and tickets, %d of them different", 2*len(uses), len(all))
	}
}

// P10.1: the three uses of one key have nothing in common.
func TestUsesOfOneKey(t *testing.T) {
	key := []byte("key")
	nonce := nonceOf(t, key, 7)
	p, c := proofOf(t, key, nonce, "a"), ticketOf(t, key, "a", 7)
	if bytes.Equal(nonce, p[:16]) || bytes.Equal(nonce, c[8:24]) || bytes.Equal(p[:24], c[8:]) {
		t.Error(nonce, p, c)
	}
	wantRight(t, key, nonce, "a", c, false)
	wantOpenError(t, key, "a", p, api.ErrProof)
}

// P10.1: no call keeps anything: an answer is the same whatever was asked in between, even if that was refused.
func TestNothingIsKept(t *testing.T) {
	key, nonce := []byte("key"), up(16)
	n, p, c := nonceOf(t, key, 3), proofOf(t, key, nonce, "a"), ticketOf(t, key, "a", 7)
	for range 3 {
		proof.Nonce(nil, 1)
		proof.Prove(up(65), nil, "")
		proof.Right(nil, nil, "", nil)
		proof.Ticket([]byte("other"), "b", 8)
		proof.Open(key, "b", c)
		if !bytes.Equal(n, nonceOf(t, key, 3)) || !bytes.Equal(p, proofOf(t, key, nonce, "a")) || !bytes.Equal(c, ticketOf(t, key, "a", 7)) {
			t.Error("an answer is another one than it was")
		}
		wantRight(t, key, nonce, "a", p, true)
		wantOpened(t, key, "a", c, 7)
	}
}

// spacious is b with bytes behind it, and all of them.
func spacious(b []byte) (part, whole []byte) {
	whole = append(slices.Clone(b), "behind it"...)
	return whole[:len(b)], whole
}

// P10.1: arguments are neither changed nor kept, nor is what lies behind them; each result is new memory.
func TestMemory(t *testing.T) {
	key, wholeKey := spacious([]byte("key"))
	nonce, wholeNonce := spacious(up(16))
	p, wholeP := spacious(proofOf(t, key, nonce, "a"))
	c, wholeC := spacious(ticketOf(t, key, "a", 7))
	args := [][]byte{wholeKey, wholeNonce, wholeP, wholeC}
	before := make([][]byte, len(args))
	for i, b := range args {
		before[i] = slices.Clone(b)
	}
	calls := []func() []byte{
		func() []byte { return nonceOf(t, key, 3) },
		func() []byte { return proofOf(t, key, nonce, "a") },
		func() []byte { return ticketOf(t, key, "a", 7) },
	}
	for i, call := range calls {
		one, two := call(), call()
		want := string(two)
		wantRight(t, key, nonce, "a", p, true)
		wantOpened(t, key, "a", c, 7)
		for j := range one[:cap(one)] {
			one[:cap(one)][j] ^= 0xff
		}
		if string(two) != want || string(call()) != want {
			t.Errorf("call %d: results share memory", i)
		}
	}
	for i, b := range args {
		if !bytes.Equal(b, before[i]) {
			t.Errorf("argument %d was changed: %x, was %x", i, b, before[i])
		}
	}
	n := nonceOf(t, key, 3)
	want := string(n)
	clear(wholeKey)
	if string(n) != want {
		t.Error("a nonce shares memory with its key")
	}
}

// P10.1: what of a sum isn't handed out doesn't lie behind what is.
func TestNothingBehindResults(t *testing.T) {
	key := []byte("key")
	rests := map[string][2][]byte{
		"Nonce":  {nonceOf(t, key, 3), sumOf(key, "n", int64(3))[16:]},
		"Ticket": {ticketOf(t, key, "a", 7), sumOf(key, "t", uint8(1), "a", int64(7))[24:]},
	}
	for name, x := range rests {
		if b := x[0]; bytes.Contains(b[:cap(b)], x[1]) {
			t.Errorf("%s hands out the rest of the sum too", name)
		}
	}
}
