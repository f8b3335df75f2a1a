package scan_test

import (
	"crypto/sha256"
	"fmt"
	"math/rand"
	"slices"
	"testing"

	"jackfield/api"
	"jackfield/frame"
	"jackfield/scan"
)

// model says the chapter a second time: it keeps the whole stream, and looks for its frames from the beginning each time.
type model struct {
	stream []byte
	found  int // frames that were returned
	broken bool
}

// look is the frames of a stream, the number of their bytes, and whether a wrong frame is behind them.
func look(stream []byte) (all []api.Frame, used int, wrong bool) {
	for {
		rest := stream[used:]
		if len(rest) < 2 {
			return all, used, false
		}
		whole := 256*int(rest[0]) + int(rest[1]) + 6
		if whole < 7 || whole > 1024 {
			return all, used, true
		}
		if len(rest) < whole {
			return all, used, false
		}
		f, err := frame.Get(slices.Clone(rest[:whole]))
		if err != nil {
			return all, used, true
		}
		all = append(all, f)
		used += whole
	}
}

func (m *model) feed(b []byte) ([]api.Frame, error) {
	if m.broken {
		return nil, api.ErrBroken
	}
	m.stream = append(m.stream, b...)
	all, _, wrong := look(m.stream)
	fresh := all[m.found:]
	m.found = len(all)
	if wrong {
		m.broken = true
		return fresh, api.ErrFrame
	}
	return fresh, nil
}

func (m *model) held() int {
	if m.broken {
		return 0
	}
	_, used, _ := look(m.stream)
	return len(m.stream) - used
}

func sameFrames(a, b []api.Frame) bool { return slices.EqualFunc(a, b, frame.Same) }

// A play is a scanner and its model, which are fed the same pieces.
type play struct {
	scanner *scan.Scanner
	model   model
}

func newPlay() *play { return &play{scanner: scan.New()} }

// feed feeds both, and is "" or how they differ.
func (p *play) feed(b []byte) string {
	got, err := p.scanner.Feed(b)
	want, wantErr := p.model.feed(b)
	if err != wantErr || !sameFrames(got, want) {
		return fmt.Sprintf("Feed(%x) = %+v, %v; want %+v, %v", b, got, err, want, wantErr)
	}
	if held, broken := p.scanner.Held(), p.scanner.Broken(); held != p.model.held() || broken != p.model.broken || held >= api.MaxFrame {
		return fmt.Sprintf("after Feed(%x): Held %d, Broken %v; want %d, %v", b, held, broken, p.model.held(), p.model.broken)
	}
	return ""
}

// whole is what comes of a stream however it is divided: all its frames, what is held at its end, and the first error.
type whole struct {
	frames []api.Frame
	held   int
	err    error
}

// fedIn feeds a stream in pieces that end at the given places, and go on to its end.
func fedIn(stream []byte, ends ...int) whole {
	s := scan.New()
	var w whole
	at := 0
	for _, end := range append(slices.Clone(ends), len(stream)) {
		l, err := s.Feed(stream[at:end])
		at = end
		w.frames = append(w.frames, l...)
		if w.err == nil {
			w.err = err
		}
	}
	w.held = s.Held()
	return w
}

func wantAlike(t *testing.T, stream []byte, ends ...int) {
	t.Helper()
	frames, used, wrong := look(stream)
	held, wantErr := len(stream)-used, error(nil)
	if wrong {
		held, wantErr = 0, api.ErrFrame
	}
	w := fedIn(stream, ends...)
	if !sameFrames(w.frames, frames) || w.held != held || w.err != wantErr {
		t.Fatalf("%x, divided at %v: %+v, held %d, %v; want %+v, held %d, %v", stream, ends, w.frames, w.held, w.err, frames, held, wantErr)
	}
}

// P6.2: every division of short streams: whole ones, cut ones, and those with a wrong frame at their beginning, in their middle or at their end.
func TestEveryDivision(t *testing.T) {
	a, b := put(t, api.Frame{Kind: api.FRefuse, Code: 3}), put(t, api.Frame{Kind: api.FRefuse})
	bad := slices.Clone(a)
	bad[7]++
	streams := [][]byte{
		joined(a, b), joined(a, b[:7]), joined(a, b[:2]), joined(a, b[:1]), joined(a, bad), joined(bad, a), joined(a, []byte{0, 0}, b[:5]),
		joined(a, []byte{0xff}), joined(a, []byte{0x03, 0xfb}, b[:4]), joined([]byte{0, 0}, a), joined(a, sealed([]byte{0})), {0, 0}, {0}, {},
	}
	for _, stream := range streams {
		for division := range 1 << max(0, len(stream)-1) {
			var ends []int
			for i := range len(stream) {
				if division>>i&1 == 1 {
					ends = append(ends, i+1)
				}
			}
			wantAlike(t, stream, ends...)
		}
	}
}

// P6.2: a stream with a frame of each kind, in two pieces divided anywhere, in three with the middle one empty, and in equal pieces of all sizes.
func TestLongStream(t *testing.T) {
	var stream []byte
	for _, f := range kinds() {
		stream = append(stream, put(t, f)...)
	}
	bent := slices.Clone(stream)
	bent[len(bent)-1] ^= 1
	for _, stream := range [][]byte{stream, bent, stream[:len(stream)-3], append(slices.Clone(stream), 0, 0, 1)} {
		for i := range len(stream) + 1 {
			wantAlike(t, stream, i)
			wantAlike(t, stream, i, i)
		}
		for size := 1; size <= len(stream); size++ {
			var ends []int
			for end := size; end < len(stream); end += size {
				ends = append(ends, end)
			}
			wantAlike(t, stream, ends...)
		}
	}
}

func chanceFrame(r *rand.Rand) api.Frame {
	all := kinds()
	f := all[r.Intn(len(all))]
	if f.Kind == api.FData {
		f.Bytes = bytesOf(1 + r.Intn(api.MaxData))
	}
	return f
}

// chanceStream is frames by chance and, mostly, something wrong or incomplete behind them.
func chanceStream(t *testing.T, r *rand.Rand) []byte {
	var b []byte
	for range r.Intn(6) {
		b = append(b, put(t, chanceFrame(r))...)
	}
	last := put(t, chanceFrame(r))
	switch r.Intn(6) {
	case 0:
		b = append(b, last[:r.Intn(len(last))]...)
	case 1:
		last[r.Intn(len(last))] ^= 1 << r.Intn(8)
		b = append(b, last...)
	case 2:
		b = append(b, sealed(bytesOf(1+r.Intn(1018)))...)
	case 3:
		b = append(b, byte(r.Intn(5)), byte(r.Intn(256)))
	case 4:
		b = append(b, bytesOf(r.Intn(2000))...)
	}
	for range r.Intn(3) {
		b = append(b, put(t, chanceFrame(r))...)
	}
	return b
}

// P6.1, P6.2: streams by chance in pieces by chance, with everything asked after each of them, on beyond the end of a broken one.
func TestManyStreams(t *testing.T) {
	r := rand.New(rand.NewSource(6))
	broken := 0
	const rounds = 2000
	for range rounds {
		stream := chanceStream(t, r)
		most := []int{1, 3, 20, 300, 3000}[r.Intn(5)]
		p := newPlay()
		for rest := stream; len(rest) > 0; {
			n := min(len(rest), r.Intn(most+1))
			if diff := p.feed(rest[:n]); diff != "" {
				t.Fatalf("%x: %s", stream, diff)
			}
			rest = rest[n:]
		}
		if p.scanner.Broken() {
			broken++
		}
		frames, used, wrong := look(stream)
		l, k, err := scan.Split(stream)
		if !sameFrames(l, frames) || k != used || wrong != (err == api.ErrFrame) || !wrong && err != nil {
			t.Fatalf("Split(%x) = %+v, %d, %v; want %+v, %d, wrong %v", stream, l, k, err, frames, used, wrong)
		}
	}
	if broken < rounds/4 || broken > rounds*3/4 {
		t.Errorf("%d of %d streams were broken", broken, rounds)
	}
}

// sealed puts the number of a body's bytes ahead of it, and a right check behind it, whatever the body is.
func sealed(body []byte) []byte {
	b := append([]byte{byte(len(body) >> 8), byte(len(body))}, body...)
	sum := sha256.Sum256(b)
	return append(b, sum[:4]...)
}
