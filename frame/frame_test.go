package frame_test

import (
	"bytes"
	"crypto/sha256"
	"math"
	"slices"
	"strings"
	"testing"

	"jackfield/api"
	"jackfield/frame"
)

var minusZero = math.Copysign(0, -1)

func bytesOf(n int) []byte {
	b := make([]byte, n)
	for i := range b {
		b[i] = byte(i*7 + 1)
	}
	return b
}

func text(n int) string { return strings.Repeat("n", n) }

// seal puts the number of a body's bytes ahead of it, and the check behind it, whatever the body is.
func seal(body []byte) []byte { return sealAs(len(body), body) }

// sealAs is seal with another number ahead.
func sealAs(n int, body []byte) []byte {
	b := append([]byte{byte(n >> 8), byte(n)}, body...)
	sum := sha256.Sum256(b)
	return append(b, sum[:4]...)
}

func wantPut(t *testing.T, f api.Frame, want []byte) {
	t.Helper()
	if err := frame.Check(f); err != nil {
		t.Errorf("Check(%+v) = %v", f, err)
	}
	if b, err := frame.Put(f); err != nil || !bytes.Equal(b, want) {
		t.Errorf("Put(%+v) = %x, %v; want %x", f, b, err, want)
	}
	if g, err := frame.Get(want); err != nil || !frame.Same(g, f) {
		t.Errorf("Get(%x) = %+v, %v; want %+v", want, g, err, f)
	}
}

func wantValid(t *testing.T, f api.Frame) {
	t.Helper()
	b, err := frame.Put(f)
	if err != nil || len(b) == 0 || len(b) > api.MaxFrame {
		t.Errorf("Put(%+v) = %d bytes, %v", f, len(b), err)
		return
	}
	wantPut(t, f, b)
}

func wantInvalid(t *testing.T, f api.Frame) {
	t.Helper()
	if err := frame.Check(f); err != api.ErrFrame {
		t.Errorf("Check(%+v) = %v, want ErrFrame", f, err)
	}
	if b, err := frame.Put(f); err != api.ErrFrame || len(b) != 0 {
		t.Errorf("Put(%+v) = %x, %v; want ErrFrame", f, b, err)
	}
}

func wantNoFrame(t *testing.T, b []byte) {
	t.Helper()
	if f, err := frame.Get(b); err != api.ErrFrame || !frame.Same(f, api.Frame{}) {
		t.Errorf("Get(%x) = %+v, %v; want ErrFrame", b, f, err)
	}
}

// samples has a frame of each kind, and its body written out by hand.
func samples() []struct {
	f    api.Frame
	body string
} {
	const seq, stream = "\x00\x00\x00\x01\x02\x03\x04\x05", "\x01\x02\x03\x04"
	const seqN, streamN = 0x0102030405, 0x01020304
	proof := string(bytesOf(32))
	return []struct {
		f    api.Frame
		body string
	}{
		{api.Frame{Kind: api.FHello, Who: "ann/0", Got: seqN, Bytes: []byte("tick")}, "\x01\x05ann/0" + seq + "\x00\x04tick"},
		{api.Frame{Kind: api.FHello, Who: "a"}, "\x01\x01a\x00\x00\x00\x00\x00\x00\x00\x00\x00\x00"},
		{api.Frame{Kind: api.FChallenge, Bytes: []byte("xyz")}, "\x02\x00\x03xyz"},
		{api.Frame{Kind: api.FProof, Bytes: bytesOf(32)}, "\x03\x00\x20" + proof},
		{api.Frame{Kind: api.FWelcome, Got: seqN, Bytes: []byte("t")}, "\x04" + seq + "\x00\x01t"},
		{api.Frame{Kind: api.FRefuse, Code: api.CodeTicket}, "\x05\x02"},
		{api.Frame{Kind: api.FRefuse}, "\x05\x00"},
		{api.Frame{Kind: api.FAck, Got: seqN}, "\x06" + seq},
		{api.Frame{Kind: api.FAck}, "\x06\x00\x00\x00\x00\x00\x00\x00\x00"},
		{api.Frame{Kind: api.FOpen, Seq: seqN, Stream: streamN, Name: "shop"}, "\x07" + seq + stream + "\x04shop"},
		{api.Frame{Kind: api.FAccept, Seq: seqN, Stream: streamN}, "\x08" + seq + stream},
		{api.Frame{Kind: api.FData, Seq: seqN, Stream: streamN, Bytes: []byte("hello")}, "\x09" + seq + stream + "\x00\x05hello"},
		{api.Frame{Kind: api.FCredit, Seq: seqN, Stream: streamN, Amount: 0x05060708}, "\x0a" + seq + stream + "\x05\x06\x07\x08"},
		{api.Frame{Kind: api.FEnd, Seq: seqN, Stream: streamN}, "\x0b" + seq + stream},
		{api.Frame{Kind: api.FReset, Seq: seqN, Stream: streamN, Code: api.CodePeer}, "\x0c" + seq + stream + "\x09"},
		{api.Frame{Kind: api.FRegister, Seq: seqN, Name: "shop", Weight: -2}, "\x0d" + seq + "\x04shop\xc0\x00\x00\x00\x00\x00\x00\x00"},
		{api.Frame{Kind: api.FRegister, Seq: 1, Name: "\xff"}, "\x0d\x00\x00\x00\x00\x00\x00\x00\x01\x01\xff\x00\x00\x00\x00\x00\x00\x00\x00"},
		{api.Frame{Kind: api.FDrain, Seq: seqN, Name: "*.shop"}, "\x0e" + seq + "\x06*.shop"},
		{api.Frame{Kind: api.FReserve, Seq: seqN, Who: "ann", Name: "shop"}, "\x0f" + seq + "\x03ann\x04shop"},
		{api.Frame{Kind: api.FRelease, Seq: seqN, Who: "bo", Name: "s"}, "\x10" + seq + "\x02bo\x01s"},
		{api.Frame{Kind: api.FAnswer, Seq: seqN, Code: api.CodePower, Name: "shop"}, "\x11" + seq + "\x0d\x04shop"},
	}
}

// P5.1, P5.2: each kind's encoding, both ways.
func TestEncodings(t *testing.T) {
	for _, s := range samples() {
		wantPut(t, s.f, seal([]byte(s.body)))
	}
}

// P5.1: the chapter's examples.
func TestExamples(t *testing.T) {
	wantPut(t, api.Frame{Kind: api.FAck, Got: 7}, seal([]byte{6, 0, 0, 0, 0, 0, 0, 0, 7}))
	wantInvalid(t, api.Frame{Kind: api.FData, Seq: 1, Stream: 1})
}

// P5.1: the numbers that are kinds, and near ones that aren't: those that are a kind's but for their high bits, too.
func TestKinds(t *testing.T) {
	layouts := []string{"", "tqr", "r", "r", "qr", "b", "q", "qwt", "qw", "qwr", "qww", "qw", "qwb", "qtf", "qt", "qtt", "qtt", "qbt"}
	for kind, layout := range layouts {
		if got := frame.Layout(kind); got != layout {
			t.Errorf("Layout(%d) = %q, want %q", kind, got, layout)
		}
		if got, want := frame.Row(kind), kind >= 7; got != want {
			t.Errorf("Row(%d) = %v, want %v", kind, got, want)
		}
	}
	others := []int{math.MinInt, math.MinInt32, -1, 0, 18, 19, math.MaxInt32, math.MaxInt}
	for kind := range 18 {
		others = append(others, -kind, kind+1<<8, kind+1<<16, kind+1<<32, kind+math.MinInt)
	}
	for _, kind := range others {
		if frame.Layout(kind) != "" || frame.Row(kind) {
			t.Errorf("%d: Layout %q, Row %v", kind, frame.Layout(kind), frame.Row(kind))
		}
		for _, s := range samples() {
			s.f.Kind = kind
			wantInvalid(t, s.f)
		}
		wantInvalid(t, api.Frame{Kind: kind})
	}
}

// A change puts one field of a frame to a value.
type change struct {
	field string
	set   func(*api.Frame)
}

func changes() []change {
	var all []change
	for _, n := range []int{1, -1, 2, 255, math.MaxInt, math.MinInt} {
		all = append(all,
			change{"Seq", func(f *api.Frame) { f.Seq = n }},
			change{"Got", func(f *api.Frame) { f.Got = n }},
			change{"Stream", func(f *api.Frame) { f.Stream = n }},
			change{"Amount", func(f *api.Frame) { f.Amount = n }},
			change{"Code", func(f *api.Frame) { f.Code = n }})
	}
	for _, n := range []int{1, 32} {
		all = append(all,
			change{"Who", func(f *api.Frame) { f.Who = text(n) }},
			change{"Name", func(f *api.Frame) { f.Name = text(n) }},
			change{"Bytes", func(f *api.Frame) { f.Bytes = make([]byte, n) }})
	}
	for _, w := range []float64{1, -1, minusZero, math.NaN(), math.Inf(1), math.SmallestNonzeroFloat64} {
		all = append(all, change{"Weight", func(f *api.Frame) { f.Weight = w }})
	}
	return all
}

// P5.1: a field that the kind doesn't use must be zero.
func TestUnusedFields(t *testing.T) {
	used := []string{"", "Who Got Bytes", "Bytes", "Bytes", "Got Bytes", "Code", "Got", "Seq Stream Name", "Seq Stream", "Seq Stream Bytes",
		"Seq Stream Amount", "Seq Stream", "Seq Stream Code", "Seq Name Weight", "Seq Name", "Seq Who Name", "Seq Who Name", "Seq Code Name"}
	for _, s := range samples() {
		for _, c := range changes() {
			if slices.Contains(strings.Fields(used[s.f.Kind]), c.field) {
				continue
			}
			f := s.f
			c.set(&f)
			wantInvalid(t, f)
		}
	}
}

// P5.1, rule 4: no bytes are as good as nil, in a kind that uses none and in FHello.
func TestEmptyBytes(t *testing.T) {
	for _, s := range samples() {
		if len(s.f.Bytes) > 0 {
			continue
		}
		s.f.Bytes = []byte{}
		wantPut(t, s.f, seal([]byte(s.body)))
		s.f.Bytes = make([]byte, 0, 9)
		wantPut(t, s.f, seal([]byte(s.body)))
	}
}

// atEdges asks a field's edges in the kinds that use it, and the values just beyond them.
func atEdges(t *testing.T, kinds []int, set func(*api.Frame, int), least, most int) {
	t.Helper()
	for _, s := range samples() {
		if !slices.Contains(kinds, s.f.Kind) {
			continue
		}
		for _, n := range []int{least, least + 1, most - 1, most} {
			f := s.f
			set(&f, n)
			wantValid(t, f)
		}
		for _, n := range []int{least - 1, most + 1} {
			f := s.f
			set(&f, n)
			wantInvalid(t, f)
		}
	}
}

var sequenced = []int{7, 8, 9, 10, 11, 12, 13, 14, 15, 16, 17}

// P5.1: the greatest and the least of each number, and what is just beyond.
func TestNumbersAtTheirEdges(t *testing.T) {
	setSeq := func(f *api.Frame, n int) { f.Seq = n }
	setGot := func(f *api.Frame, n int) { f.Got = n }
	setStream := func(f *api.Frame, n int) { f.Stream = n }
	setAmount := func(f *api.Frame, n int) { f.Amount = n }
	setCode := func(f *api.Frame, n int) { f.Code = n }
	got := []int{api.FHello, api.FWelcome, api.FAck}
	streams := []int{7, 8, 9, 10, 11, 12}
	amount := []int{api.FCredit}
	codes := []int{api.FRefuse, api.FReset, api.FAnswer}

	atEdges(t, sequenced, setSeq, 1, 1<<40)
	atEdges(t, got, setGot, 0, 1<<40)
	atEdges(t, streams, setStream, 1, 1<<31-1)
	atEdges(t, amount, setAmount, 1, 1<<31-1)
	atEdges(t, codes, setCode, 0, 13)
	for _, far := range []int{math.MinInt, -1 << 40, -1 << 31, -256, -1, 1<<41 + 1, 1<<62 + 1, math.MaxInt} {
		for _, s := range samples() {
			for _, set := range []func(*api.Frame, int){setSeq, setGot, setStream, setAmount, setCode} {
				f := s.f
				set(&f, far)
				wantInvalid(t, f)
			}
		}
	}
	for _, n := range []int{1 << 31, 1<<32 - 1, 1 << 32, 1<<32 + 1} {
		wantInvalid(t, api.Frame{Kind: api.FAccept, Seq: 1, Stream: n})
		wantInvalid(t, api.Frame{Kind: api.FCredit, Seq: 1, Stream: 1, Amount: n})
	}
	for _, n := range []int{14, 255, 256, 257} {
		wantInvalid(t, api.Frame{Kind: api.FRefuse, Code: n})
	}
}

// P5.1: the longest and the shortest of each text, and what is just beyond.
func TestTextsAtTheirEdges(t *testing.T) {
	setWho := func(f *api.Frame, n int) { f.Who = text(n) }
	setName := func(f *api.Frame, n int) { f.Name = text(n) }
	setBytes := func(f *api.Frame, n int) { f.Bytes = bytesOf(n) }
	atEdges(t, []int{api.FHello, api.FReserve, api.FRelease}, setWho, 1, 16)
	atEdges(t, []int{api.FOpen, api.FRegister, api.FDrain, api.FReserve, api.FRelease, api.FAnswer}, setName, 1, 63)
	atEdges(t, []int{api.FChallenge, api.FWelcome}, setBytes, 1, 32)
	atEdges(t, []int{api.FData}, setBytes, 1, 512)
	for n := range 80 {
		hello := api.Frame{Kind: api.FHello, Who: "ann/0", Bytes: bytesOf(n)}
		proof := api.Frame{Kind: api.FProof, Bytes: bytesOf(n)}
		if n <= 32 {
			wantValid(t, hello)
		} else {
			wantInvalid(t, hello)
		}
		if n == 32 {
			wantValid(t, proof)
		} else {
			wantInvalid(t, proof)
		}
	}
	for _, n := range []int{255, 256, 257, 512, 513, 65535, 65536, 65537, 70000} {
		wantInvalid(t, api.Frame{Kind: api.FReserve, Seq: 1, Who: text(n), Name: "a"})
		wantInvalid(t, api.Frame{Kind: api.FReserve, Seq: 1, Who: "a", Name: text(n)})
		if n > 512 {
			wantInvalid(t, api.Frame{Kind: api.FData, Seq: 1, Stream: 1, Bytes: bytesOf(n)})
		}
	}
}

// P5.1: a name, an owner and bytes may be any bytes.
func TestAnyBytes(t *testing.T) {
	for x := range 256 {
		one := []byte{byte(x)}
		wantValid(t, api.Frame{Kind: api.FReserve, Seq: 1, Who: string(one), Name: string(one)})
		wantValid(t, api.Frame{Kind: api.FData, Seq: 1, Stream: 1, Bytes: one})
		wantValid(t, api.Frame{Kind: api.FHello, Who: string(one), Bytes: one})
	}
}

// P5.1, P5.2: any weight, bit by bit.
func TestWeights(t *testing.T) {
	for _, bits := range []uint64{0, 1, 1 << 63, 1<<63 | 1, math.Float64bits(1), math.Float64bits(-1e6), math.Float64bits(math.Inf(1)), math.Float64bits(math.Inf(-1)),
		0x7ff8000000000000, 0x7ff8000000000001, 0x7ff0000000000001, 0xfff8000000000000, 0xffffffffffffffff, 0x7fefffffffffffff} {
		f := api.Frame{Kind: api.FRegister, Seq: 1, Name: "a", Weight: math.Float64frombits(bits)}
		body := []byte("\x0d\x00\x00\x00\x00\x00\x00\x00\x01\x01a")
		for i := range 8 {
			body = append(body, byte(bits>>(56-8*i)))
		}
		wantPut(t, f, seal(body))
		g, err := frame.Get(seal(body))
		if err != nil || math.Float64bits(g.Weight) != bits {
			t.Errorf("%016x: %016x, %v", bits, math.Float64bits(g.Weight), err)
		}
	}
}

// P5.2: the longest frame of each kind has its place in MaxFrame.
func TestLongest(t *testing.T) {
	longest := 0
	for _, s := range samples() {
		f := s.f
		if f.Who != "" {
			f.Who = text(api.MaxWho)
		}
		if f.Name != "" {
			f.Name = text(api.MaxName)
		}
		if f.Bytes != nil {
			f.Bytes = bytesOf(32)
		}
		if f.Kind == api.FData {
			f.Bytes = bytesOf(api.MaxData)
		}
		b, err := frame.Put(f)
		if err != nil || len(b) > api.MaxFrame {
			t.Errorf("Put(%+v) = %d bytes, %v", f, len(b), err)
		}
		longest = max(longest, len(b))
	}
	if longest != 2+1+8+4+2+512+4 {
		t.Errorf("the longest frame has %d bytes", longest)
	}
}

// P5.1: a frame's bytes with one bit changed, cut short, or with more ahead of them or behind, are no frame.
func TestBrokenBytes(t *testing.T) {
	for _, s := range samples() {
		b := seal([]byte(s.body))
		for i := range b {
			for bit := range 8 {
				c := bytes.Clone(b)
				c[i] ^= 1 << bit
				wantNoFrame(t, c)
			}
		}
		for n := range b {
			wantNoFrame(t, b[:n])
			wantNoFrame(t, b[n+1:])
			wantNoFrame(t, slices.Delete(bytes.Clone(b), n, n+1))
		}
		wantNoFrame(t, append(bytes.Clone(b), 0))
		wantNoFrame(t, append([]byte{0}, b...))
		wantNoFrame(t, append(bytes.Clone(b), b...))
	}
	for n := range 16 {
		wantNoFrame(t, make([]byte, n))
		wantNoFrame(t, bytesOf(n))
	}
	wantNoFrame(t, nil)
}

// P5.1: the check alone doesn't make a frame: the number ahead must be the body's, and the body one of its kind.
func TestWrongBodies(t *testing.T) {
	for _, s := range samples() {
		body := []byte(s.body)
		for n := range 300 {
			if n != len(body) {
				wantNoFrame(t, sealAs(n, body))
			}
		}
		for _, n := range []int{len(body) + 256, len(body) + 4, 1024, 65535, 1 << 15} {
			wantNoFrame(t, sealAs(n, body))
		}
		for n := range body {
			wantNoFrame(t, seal(body[:n]))
		}
		wantNoFrame(t, seal(append(bytes.Clone(body), 0)))
		wantNoFrame(t, seal(append(bytes.Clone(body), body...)))
	}
	for kind := range 256 {
		wantNoFrame(t, seal([]byte{byte(kind)}))
		if kind == 0 || kind > 17 {
			wantNoFrame(t, seal([]byte{byte(kind), 0}))
			wantNoFrame(t, seal([]byte{byte(kind), 0, 0, 0, 0, 0, 0, 0, 7}))
			wantNoFrame(t, seal(append([]byte{byte(kind)}, bytesOf(600)...)))
		}
	}
}

// P5.1: bytes that the layout allows, but of a frame that is invalid.
func TestInvalidBodies(t *testing.T) {
	const one, zero = "\x00\x00\x00\x00\x00\x00\x00\x01", "\x00\x00\x00\x00\x00\x00\x00\x00"
	const over, great = "\x00\x00\x01\x00\x00\x00\x00\x01", "\x80\x00\x00\x00\x00\x00\x00\x01"
	const stream = "\x00\x00\x00\x01"
	for _, body := range []string{
		"\x01\x00" + zero + "\x00\x00",
		"\x01\x11" + text(17) + zero + "\x00\x00",
		"\x01\x01a" + over + "\x00\x00",
		"\x01\x01a" + great + "\x00\x00",
		"\x01\x01a" + zero + "\x00\x21" + text(33),
		"\x02\x00\x00",
		"\x02\x00\x21" + text(33),
		"\x03\x00\x00",
		"\x03\x00\x1f" + text(31),
		"\x03\x00\x21" + text(33),
		"\x04" + zero + "\x00\x00",
		"\x04" + over + "\x00\x01a",
		"\x05\x0e",
		"\x05\xff",
		"\x06" + over,
		"\x06" + great,
		"\x07" + zero + stream + "\x01a",
		"\x07" + over + stream + "\x01a",
		"\x07" + one + "\x00\x00\x00\x00\x01a",
		"\x07" + one + "\x80\x00\x00\x00\x01a",
		"\x07" + one + stream + "\x00",
		"\x07" + one + stream + "\x40" + text(64),
		"\x08" + zero + stream,
		"\x09" + one + stream + "\x00\x00",
		"\x09" + one + stream + "\x02\x01" + text(513),
		"\x09" + one + "\xff\xff\xff\xff\x00\x01a",
		"\x0a" + one + stream + "\x00\x00\x00\x00",
		"\x0a" + one + stream + "\x80\x00\x00\x00",
		"\x0b" + one + "\x00\x00\x00\x00",
		"\x0c" + one + stream + "\x0e",
		"\x0d" + one + "\x00" + zero,
		"\x0d" + zero + "\x01a" + zero,
		"\x0e" + one + "\x00",
		"\x0f" + one + "\x00\x01a",
		"\x0f" + one + "\x01a\x00",
		"\x10" + one + "\x11" + text(17) + "\x01a",
		"\x11" + one + "\x0e\x01a",
		"\x11" + one + "\x00\x00",
	} {
		wantNoFrame(t, seal([]byte(body)))
	}
}

// P5.1: bytes as long as a frame could be, or longer, with a right check.
func TestLongBytes(t *testing.T) {
	for _, n := range []int{api.MaxFrame - 7, api.MaxFrame - 6, api.MaxFrame - 5, 2048, 65535, 65536, 1 << 20} {
		for _, kind := range []byte{0, 1, 2, 6, 9, 13, 17, 18} {
			body := bytes.Repeat([]byte{0}, n)
			body[0] = kind
			wantNoFrame(t, sealAs(n, body))
		}
	}
	data := append([]byte("\x09\x00\x00\x00\x00\x00\x00\x00\x01\x00\x00\x00\x01\xff\xff"), make([]byte, 65535)...)
	wantNoFrame(t, seal(data))
	wantNoFrame(t, seal(data[:len(data)-20]))
}

// P5.1: Same, for each field that differs, and in frames that are invalid too.
func TestSame(t *testing.T) {
	bases := []api.Frame{{}, {Kind: 99, Seq: -5, Name: "x"}}
	for _, s := range samples() {
		bases = append(bases, s.f)
	}
	for _, a := range bases {
		b := a
		b.Bytes = bytes.Clone(a.Bytes)
		wantSame(t, a, b, true)
		for _, c := range []func(*api.Frame){
			func(f *api.Frame) { f.Kind++ },
			func(f *api.Frame) { f.Seq++ },
			func(f *api.Frame) { f.Got-- },
			func(f *api.Frame) { f.Stream += 1 << 32 },
			func(f *api.Frame) { f.Amount++ },
			func(f *api.Frame) { f.Code++ },
			func(f *api.Frame) { f.Who += "x" },
			func(f *api.Frame) { f.Name += "x" },
			func(f *api.Frame) { f.Weight++ },
			func(f *api.Frame) { f.Bytes = append(bytes.Clone(f.Bytes), 0) },
		} {
			b := a
			c(&b)
			wantSame(t, a, b, false)
		}
	}
	wantSame(t, api.Frame{Bytes: nil}, api.Frame{Bytes: []byte{}}, true)
	wantSame(t, api.Frame{Bytes: []byte{1, 2}}, api.Frame{Bytes: []byte{1, 3}}, false)
	wantSame(t, api.Frame{Who: "a", Name: "b"}, api.Frame{Who: "b", Name: "a"}, false)
	wantSame(t, api.Frame{Seq: 1}, api.Frame{Got: 1}, false)
	nan, other := math.Float64frombits(0x7ff8000000000001), math.Float64frombits(0x7ff8000000000002)
	wantSame(t, api.Frame{Weight: nan}, api.Frame{Weight: nan}, true)
	wantSame(t, api.Frame{Weight: nan}, api.Frame{Weight: other}, false)
	wantSame(t, api.Frame{Weight: 0}, api.Frame{Weight: minusZero}, false)
	wantSame(t, api.Frame{Weight: minusZero}, api.Frame{Weight: minusZero}, true)
}

func wantSame(t *testing.T, a, b api.Frame, want bool) {
	t.Helper()
	if frame.Same(a, b) != want || frame.Same(b, a) != want {
		t.Errorf("Same(%+v, %+v) = %v, %v; want %v", a, b, frame.Same(a, b), frame.Same(b, a), want)
	}
}

// Rule 4: what is given isn't changed, nor what stands behind it, and what is answered is new.
func TestNothingShared(t *testing.T) {
	for _, s := range samples() {
		whole := append(seal([]byte(s.body)), "behind"...)
		before := bytes.Clone(whole)
		given := whole[:len(whole)-len("behind")]
		wantNoFrame(t, given[:len(given)-4]) // its check would stand over the bytes behind it
		f, err := frame.Get(given)
		if err != nil || !bytes.Equal(whole, before) {
			t.Fatalf("Get(%x): %v; the bytes are %x then", before, err, whole)
		}
		clear(whole)
		if !frame.Same(f, s.f) {
			t.Errorf("%+v has changed with the bytes it was read from", f)
		}
		g, _ := frame.Get(seal([]byte(s.body)))
		b, err := frame.Put(f)
		if err != nil {
			t.Fatal(err)
		}
		if !frame.Same(f, g) {
			t.Errorf("Put has changed its frame to %+v", f)
		}
		again, _ := frame.Put(f)
		clear(b[:cap(b)])
		clear(f.Bytes[:cap(f.Bytes)])
		if !bytes.Equal(again, seal([]byte(s.body))) {
			t.Errorf("two encodings share memory, or one with its frame")
		}
	}
	backing := []byte("hello, behind")
	f := api.Frame{Kind: api.FData, Seq: 1, Stream: 1, Bytes: backing[:5]}
	wantValid(t, f)
	if string(backing) != "hello, behind" {
		t.Errorf("the frame's bytes are %q then", backing)
	}
}
