package hash_test

import (
	"bytes"
	"crypto/hmac"
	"crypto/sha256"
	"encoding/hex"
	"math/rand"
	"slices"
	"strings"
	"testing"

	"jackfield/hash"
)

const emptyDigest = "e3b0c44298fc1c149afbf4c8996fb92427ae41e4649b934ca495991b7852b855"

// some is n bytes, no two neighbouring blocks of which are the same.
func some(n int) []byte {
	b := make([]byte, n)
	rand.New(rand.NewSource(int64(n) + 1)).Read(b)
	return b
}

func trueKeyed(key, b []byte) [32]byte {
	m := hmac.New(sha256.New, key)
	m.Write(b)
	return [32]byte(m.Sum(nil))
}

// wantAll holds the three sums of parts against the library's of the parts in one piece.
func wantAll(t *testing.T, key []byte, parts ...[]byte) {
	t.Helper()
	whole := bytes.Join(parts, nil)
	want := sha256.Sum256(whole)
	if got := hash.Digest(parts...); got != want {
		t.Errorf("Digest of %d bytes in %d parts = %x, want %x", len(whole), len(parts), got, want)
	}
	if got := hash.Check(parts...); got != [4]byte(want[:4]) {
		t.Errorf("Check of %d bytes in %d parts = %x, want %x", len(whole), len(parts), got, want[:4])
	}
	keyed := trueKeyed(key, whole)
	if got := hash.Keyed(key, parts...); got != keyed {
		t.Errorf("Keyed of a key of %d bytes and %d bytes in %d parts = %x, want %x", len(key), len(whole), len(parts), got, keyed)
	}
}

// P2.1: digests that are known from outside.
func TestDigestKnown(t *testing.T) {
	for _, c := range []struct{ in, want string }{
		{"", emptyDigest},
		{"abc", "ba7816bf8f01cfea414140de5dae2223b00361a396177a9cb410ff61f20015ad"},
		{"abcdbcdecdefdefgefghfghighijhijkijkljklmklmnlmnomnopnopq", "248d6a61d20638b8e5c026930c3e6039a33ce45964ff2167f6ecedd419db06c1"},
		{strings.Repeat("a", 1000000), "cdc76e5c9914fb9281a1c7e284d73e67f1809a48a497200e046d39ccc7112cd0"},
	} {
		got := hash.Digest([]byte(c.in))
		if hex.EncodeToString(got[:]) != c.want {
			t.Errorf("Digest(%.60q) = %x, want %s", c.in, got, c.want)
		}
		if check := hash.Check([]byte(c.in)); hex.EncodeToString(check[:]) != c.want[:8] {
			t.Errorf("Check(%.60q) = %x, want %s", c.in, check, c.want[:8])
		}
	}
}

// P2.1: keyed sums that are known from outside; the last keys are longer than a block.
func TestKeyedKnown(t *testing.T) {
	long := strings.Repeat("\xaa", 131)
	for _, c := range []struct{ key, in, want string }{
		{"Jefe", "what do ya want for nothing?", "5bdcc146bf60754e6a042426089575c75a003f089d2739839dec58b964ec3843"},
		{"", "", "b613679a0814d9ec772f95d778c35fc5ff1697c493715653c6c712144292c5ad"},
		{strings.Repeat("\x0b", 20), "Hi There", "b0344c61d8db38535ca8afceaf0bf12b881dc200c9833da726e9376c2e32cff7"},
		{strings.Repeat("\xaa", 20), strings.Repeat("\xdd", 50), "773ea91e36800e46854db8ebd09181a72959098b3ef8c122d9635514ced565fe"},
		{long, "Test Using Larger Than Block-Size Key - Hash Key First", "60e431591ee0b67f0d8a26aacbf5b77f8e0bc6213728c5140546040f0ee37f54"},
		{long, "This is a test using a larger than block-size key and a larger than block-size data. The key needs to be hashed before being used by the HMAC algorithm.", "9b09ffa71b942fcb27635fbcd5b0e944bfdc63644f0713938a7f51535c3a35e2"},
	} {
		got := hash.Keyed([]byte(c.key), []byte(c.in))
		if hex.EncodeToString(got[:]) != c.want {
			t.Errorf("Keyed(%q, %q) = %x, want %s", c.key, c.in, got, c.want)
		}
	}
}

// P2.1: no parts, nil parts and empty parts are all no bytes.
func TestNoBytes(t *testing.T) {
	key := []byte("key")
	for _, parts := range [][][]byte{nil, {}, {nil}, {{}}, {nil, {}, nil}, {make([]byte, 0, 9)}, {some(9)[9:]}} {
		if got := hash.Digest(parts...); hex.EncodeToString(got[:]) != emptyDigest {
			t.Errorf("Digest(%v) = %x", parts, got)
		}
		wantAll(t, key, parts...)
		wantAll(t, nil, parts...)
		wantAll(t, []byte{}, parts...)
	}
}

// P2.1: every length within the first blocks, so all of 55, 56, 63, 64, 65, 119, 120 and 128 with their neighbours, and some greater ones.
func TestLengths(t *testing.T) {
	lengths := []int{511, 512, 513, 1023, 1024, 1025, 4095, 4096, 4097, 65535, 65536, 65537, 1 << 20}
	for n := range 400 {
		lengths = append(lengths, n)
	}
	for _, n := range lengths {
		wantAll(t, some(n%70), some(n))
	}
}

// P2.1: the bytes of each value, and bits that stand alone, are told apart.
func TestEachByte(t *testing.T) {
	seen := map[[32]byte]bool{}
	for x := range 256 {
		for _, n := range []int{1, 55, 56, 64} {
			b := bytes.Repeat([]byte{byte(x)}, n)
			wantAll(t, b, b)
			seen[hash.Digest(b)] = true
		}
	}
	for bit := range 8 * 130 {
		b := make([]byte, 130)
		b[bit/8] = 1 << (bit % 8)
		wantAll(t, b, b)
		seen[hash.Digest(b)] = true
	}
	if want := 4*256 + 8*130; len(seen) != want {
		t.Errorf("%d digests of %d different lists", len(seen), want)
	}
}

// P2.1: the number of bits has more than 32 bits of its own.
func TestManyBytes(t *testing.T) {
	if testing.Short() {
		t.Skip("half a gigabyte of bytes")
	}
	t.Parallel()
	piece := some(1 << 20)
	parts := slices.Repeat([][]byte{piece}, 1<<9)
	parts = append(parts, []byte("x"))
	want := sha256.New()
	for _, p := range parts {
		want.Write(p)
	}
	if got := hash.Digest(parts...); got != [32]byte(want.Sum(nil)) {
		t.Errorf("Digest of 2^29 + 1 bytes = %x, want %x", got, want.Sum(nil))
	}
}

// P2.1: one cut at each place, for bytes of every length around the ends of blocks.
func TestTwoParts(t *testing.T) {
	key := some(20)
	for _, n := range []int{1, 2, 54, 55, 56, 57, 62, 63, 64, 65, 66, 118, 119, 120, 121, 127, 128, 129, 191, 192, 193} {
		b := some(n)
		for at := range n + 1 {
			wantAll(t, key, b[:at], b[at:])
			wantAll(t, key, nil, b[:at], []byte{}, b[at:], nil)
		}
	}
}

// P2.1: pieces of equal size, of each size.
func TestEqualParts(t *testing.T) {
	b := some(257)
	for size := 1; size <= len(b); size++ {
		wantAll(t, b[:size], slices.Collect(slices.Chunk(b, size))...)
	}
}

// P2.1: pieces of any sizes, no bytes among them, over several blocks.
func TestAnyParts(t *testing.T) {
	r := rand.New(rand.NewSource(2))
	for range 2000 {
		b := some(r.Intn(600))
		var parts [][]byte
		for rest := b; len(rest) > 0; {
			n := min(r.Intn(150), len(rest))
			parts = append(parts, rest[:n])
			rest = rest[n:]
		}
		wantAll(t, some(r.Intn(140)), parts...)
	}
}

// P2.1: one list may be several parts, and the key as well.
func TestSharedParts(t *testing.T) {
	b := some(100)
	wantAll(t, b, b, b, b[10:20], b)
	wantAll(t, b[:64], b, b[:64])
}

// P2.1: keys of every length about a block, and much longer ones.
func TestKeys(t *testing.T) {
	lengths := []int{255, 256, 257, 1000, 4096, 100000}
	for n := range 200 {
		lengths = append(lengths, n)
	}
	for _, n := range lengths {
		for _, size := range []int{0, 1, 55, 56, 64, 100} {
			wantAll(t, some(n), some(size + 1)[1:])
		}
	}
}

// P2.1: up to a block's length bytes 0 behind a key don't matter; a longer key is as good as its digest.
func TestKeyPadding(t *testing.T) {
	in := []byte("in")
	for n := range 65 {
		key := some(n)
		padded := append(slices.Clone(key), make([]byte, 64-n)...)
		if hash.Keyed(key, in) != hash.Keyed(padded, in) {
			t.Errorf("a key of %d bytes is not as good as itself padded", n)
		}
		if hash.Keyed(key, in) == hash.Keyed(append(padded, 0), in) {
			t.Errorf("a key of %d bytes is as good as itself with 65 bytes", n)
		}
	}
	long := some(65)
	short := hash.Digest(long)
	if hash.Keyed(long, in) != hash.Keyed(short[:], in) {
		t.Error("a key of 65 bytes is not as good as its digest")
	}
	if exact := some(64); hash.Keyed(exact, in) == hash.Keyed(digestOf(exact), in) {
		t.Error("a key of 64 bytes is replaced by its digest")
	}
}

func digestOf(b []byte) []byte {
	d := hash.Digest(b)
	return d[:]
}

func wantAlike(t *testing.T, a, b []byte, want bool) {
	t.Helper()
	if got := hash.Alike(a, b); got != want {
		t.Errorf("Alike(% .40x, % .40x) = %v", a, b, got)
	}
	if got := hash.Alike(b, a); got != want {
		t.Errorf("Alike(% .40x, % .40x) = %v", b, a, got)
	}
}

// P2.1: Alike of no bytes, nil or empty, and of a list and itself.
func TestAlikeNothing(t *testing.T) {
	for _, a := range [][]byte{nil, {}, make([]byte, 0, 5), some(3)[3:]} {
		for _, b := range [][]byte{nil, {}, make([]byte, 0, 7), some(3)[:0]} {
			wantAlike(t, a, b, true)
		}
		wantAlike(t, a, []byte{0}, false)
		wantAlike(t, a, some(40), false)
	}
	b := some(40)
	wantAlike(t, b, b, true)
}

// P2.1: Alike of lists that differ at one place, by one bit or by all.
func TestAlikeDiffering(t *testing.T) {
	for n := 1; n <= 70; n++ {
		a := some(n)
		wantAlike(t, a, slices.Clone(a), true)
		for at := range n {
			for bit := range 8 {
				b := slices.Clone(a)
				b[at] ^= 1 << bit
				wantAlike(t, a, b, false)
			}
			b := slices.Clone(a)
			b[at] ^= 0xff
			wantAlike(t, a, b, false)
		}
	}
}

// P2.1: Alike of lists with two differences, which must not cancel each other.
func TestAlikeTwice(t *testing.T) {
	a := make([]byte, 8)
	for i := range a {
		for j := range a {
			for _, by := range [][2]byte{{1, 1}, {1, 255}, {128, 128}, {2, 254}} {
				b := slices.Clone(a)
				b[i] += by[0]
				b[j] += by[1]
				wantAlike(t, a, b, bytes.Equal(a, b))
			}
		}
	}
	wantAlike(t, []byte("ab"), []byte("ba"), false)
}

// P2.1: Alike of lists one of which only begins or ends like the other.
func TestAlikeLengths(t *testing.T) {
	for n := 1; n <= 70; n++ {
		b := some(n)
		wantAlike(t, b, b[:n-1], false)
		wantAlike(t, b, b[1:], false)
		wantAlike(t, b, append(slices.Clone(b), 0), false)
		wantAlike(t, make([]byte, n), make([]byte, n-1), false)
		wantAlike(t, make([]byte, n), make([]byte, n+256), false)
	}
}

// P2.1: Hex of every byte, of all of them, and of none.
func TestHex(t *testing.T) {
	var all []byte
	for x := range 256 {
		b := []byte{byte(x)}
		all = append(all, b...)
		if got := hash.Hex(b); got != hex.EncodeToString(b) {
			t.Errorf("Hex(%d) = %q", x, got)
		}
	}
	for _, b := range [][]byte{nil, {}, make([]byte, 0, 4), all, all[:255], some(1000)} {
		if got := hash.Hex(b); got != hex.EncodeToString(b) {
			t.Errorf("Hex(% x) = %q", b, got)
		}
	}
	if got := hash.Hex([]byte{0, 9, 10, 15, 16, 0xa0, 0xff}); got != "00090a0f10a0ff" {
		t.Errorf("Hex = %q", got)
	}
}

// spare is n bytes with more of them behind, which belong to the caller.
func spare(n int) []byte { return some(n + 200)[:n] }

// Rule 4: arguments stay as they were, with the bytes and the parts in their unused capacity.
func TestArgumentsStay(t *testing.T) {
	for _, n := range []int{0, 1, 31, 32, 55, 56, 63, 64, 65, 128, 200} {
		key, first, second, hidden := spare(n), spare(n), spare(2*n), spare(3)
		parts := append(make([][]byte, 0, 5), first, second, hidden)[:2]
		hash.Digest(parts...)
		hash.Check(parts...)
		hash.Keyed(key, parts...)
		hash.Keyed(first, parts...)
		hash.Alike(first, second)
		hash.Alike(first, key)
		hash.Hex(first)
		for _, b := range [][]byte{key, first, second, hidden} {
			if !bytes.Equal(b[:cap(b)], some(len(b) + 200)[:cap(b)]) {
				t.Errorf("bytes of an argument of %d bytes were changed", len(b))
			}
		}
		whole := parts[:cap(parts)]
		same := [][]byte{first, second, hidden, nil, nil}
		for i, p := range whole {
			if len(p) != len(same[i]) || len(p) > 0 && &p[0] != &same[i][0] {
				t.Errorf("part %d was changed", i)
			}
		}
	}
}

// Rules 4 and 7: nothing is kept: what is done to arguments after a call, and calls between, change no answer.
func TestNothingKept(t *testing.T) {
	b, key := some(100), some(70)
	digest, keyed, text := hash.Digest(b), hash.Keyed(key, b), hash.Hex(b)
	want := strings.Clone(text)
	copyOfB, copyOfKey := slices.Clone(b), slices.Clone(key)
	clear(b)
	clear(key)
	hash.Digest(b, b)
	hash.Keyed(key, b)
	if text != want {
		t.Error("a text follows the bytes it was made of")
	}
	if hash.Digest(copyOfB) != digest || hash.Keyed(copyOfKey, copyOfB) != keyed {
		t.Error("a second call answers otherwise than the first")
	}
}
