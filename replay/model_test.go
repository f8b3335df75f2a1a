package replay_test

import (
	"fmt"
	"math/rand"
	"slices"
	"testing"

	"jackfield/api"
	"jackfield/frame"
	"jackfield/replay"
)

// modelOut says the chapter a second time: it keeps all frames that were ever pushed, and counts anew each time.
type modelOut struct {
	all   []api.Frame
	acked int
}

func (m *modelOut) bytes() int {
	total := 0
	for _, f := range m.all[m.acked:] {
		total += sizeOf(f)
	}
	return total
}

// sizeOf is how many bytes a valid frame's encoding has, by the table of layer 5.
func sizeOf(f api.Frame) int {
	const head, check, kind, q, w, b, t, r, float = 2, 4, 1, 8, 4, 1, 1, 2, 8
	size := head + check + kind + q
	switch f.Kind {
	case api.FOpen:
		size += w + t + len(f.Name)
	case api.FAccept, api.FEnd:
		size += w
	case api.FData:
		size += w + r + len(f.Bytes)
	case api.FCredit:
		size += w + w
	case api.FReset:
		size += w + b
	case api.FRegister:
		size += t + len(f.Name) + float
	case api.FDrain:
		size += t + len(f.Name)
	case api.FReserve, api.FRelease:
		size += t + len(f.Who) + t + len(f.Name)
	case api.FAnswer:
		size += b + t + len(f.Name)
	}
	return size
}

func sequenced(f api.Frame) bool { return f.Kind >= 7 && f.Kind <= 17 && frame.Check(f) == nil }

func (m *modelOut) push(f api.Frame) (api.Frame, error) {
	f.Seq = len(m.all) + 1
	f.Bytes = slices.Clone(f.Bytes)
	if !sequenced(f) {
		return api.Frame{}, api.ErrFrame
	}
	if m.bytes()+sizeOf(f) > 8192 {
		return api.Frame{}, api.ErrFull
	}
	m.all = append(m.all, f)
	return f, nil
}

func (m *modelOut) ack(got int) error {
	if got < 0 || got > len(m.all) {
		return api.ErrGap
	}
	m.acked = max(m.acked, got)
	return nil
}

func (m *modelOut) since(got int) ([]api.Frame, error) {
	if got < m.acked || got > len(m.all) {
		return nil, api.ErrGap
	}
	return m.all[got:], nil
}

// modelIn keeps what it has taken.
type modelIn struct{ taken []api.Frame }

func (m *modelIn) take(f api.Frame) (bool, error) {
	switch {
	case !sequenced(f):
		return false, api.ErrFrame
	case f.Seq > len(m.taken)+1:
		return false, api.ErrGap
	case f.Seq <= len(m.taken):
		return false, nil
	}
	m.taken = append(m.taken, f)
	return true, nil
}

func sameFrames(a, b []api.Frame) bool { return slices.EqualFunc(a, b, frame.Same) }

// chanceFrame is mostly one that may be pushed, long or short.
func chanceFrame(r *rand.Rand) api.Frame {
	switch r.Intn(12) {
	case 0:
		return wrong()[r.Intn(len(wrong()))]
	case 1:
		return plain()[r.Intn(len(plain()))]
	case 2, 3, 4, 5:
		f := data(1 + r.Intn(512))
		r.Read(f.Bytes)
		return f
	case 6:
		return drain(1 + r.Intn(63))
	}
	return samples()[r.Intn(len(samples()))].f
}

// A play is both queues and their models, to which the same is done.
type play struct {
	r    *rand.Rand
	out  *replay.Out
	in   *replay.In
	mOut modelOut
	mIn  modelIn
	seen map[string]int
}

func newPlay(seed int64, seen map[string]int) *play {
	return &play{r: rand.New(rand.NewSource(seed)), out: replay.NewOut(), in: replay.NewIn(), seen: seen}
}

// near is a number at or near to what was acknowledged, what has arrived, or what was pushed, or far from all.
func (p *play) near() int {
	from := []int{p.mOut.acked, len(p.mOut.all), len(p.mIn.taken), 0, p.r.Intn(len(p.mOut.all) + 1)}
	return from[p.r.Intn(len(from))] + p.r.Intn(5) - 2
}

func (p *play) push() string {
	f := numbered(chanceFrame(p.r), p.near())
	fits := p.out.Fits(f)
	g, err := p.out.Push(f)
	want, wantErr := p.mOut.push(f)
	p.seen[fmt.Sprint("push ", err)]++
	if err != wantErr || fits != (wantErr == nil) || !frame.Same(g, want) {
		return fmt.Sprintf("Push(%+v) = %+v, %v, Fits %v; want %+v, %v", f, g, err, fits, want, wantErr)
	}
	return ""
}

func (p *play) ack() string {
	got := p.near()
	err, wantErr := p.out.Ack(got), p.mOut.ack(got)
	p.seen[fmt.Sprint("ack ", err)]++
	if err != wantErr {
		return fmt.Sprintf("Ack(%d) = %v, want %v", got, err, wantErr)
	}
	return ""
}

func (p *play) since() string {
	got := p.near()
	l, err := p.out.Since(got)
	want, wantErr := p.mOut.since(got)
	p.seen[fmt.Sprint("since ", err)]++
	if err != wantErr || !sameFrames(l, want) {
		return fmt.Sprintf("Since(%d) = %+v, %v; want %+v, %v", got, l, err, want, wantErr)
	}
	return ""
}

func (p *play) take() string {
	f := numbered(chanceFrame(p.r), p.near())
	ok, err := p.in.Take(f)
	want, wantErr := p.mIn.take(f)
	p.seen[fmt.Sprint("take ", ok, err)]++
	if ok != want || err != wantErr {
		return fmt.Sprintf("Take(%+v) = %v, %v; want %v, %v", f, ok, err, want, wantErr)
	}
	return ""
}

// state is how the queues differ from their models, or "".
func (p *play) state() string {
	o, m := p.out, &p.mOut
	if o.Last() != len(m.all) || o.Acked() != m.acked || o.Bytes() != m.bytes() || p.in.Got() != len(p.mIn.taken) {
		return fmt.Sprintf("Last %d, Acked %d, Bytes %d, Got %d; want %d, %d, %d, %d",
			o.Last(), o.Acked(), o.Bytes(), p.in.Got(), len(m.all), m.acked, m.bytes(), len(p.mIn.taken))
	}
	return ""
}

// P11.1: calls in an order by chance, with everything asked after each of them.
func TestManyCalls(t *testing.T) {
	seen := map[string]int{}
	for seed := range int64(60) {
		p := newPlay(seed, seen)
		calls := []func() string{p.push, p.push, p.push, p.push, p.ack, p.since, p.take, p.take}
		for i := range 600 {
			diff := calls[p.r.Intn(len(calls))]()
			if diff == "" {
				diff = p.state()
			}
			if diff != "" {
				t.Fatalf("seed %d, call %d: %s", seed, i, diff)
			}
		}
	}
	for _, what := range []string{
		"push <nil>", "push jackfield: frame", "push jackfield: full", "ack <nil>", "ack jackfield: gap",
		"since <nil>", "since jackfield: gap", "take true <nil>", "take false <nil>", "take false jackfield: frame", "take false jackfield: gap",
	} {
		if seen[what] < 200 {
			t.Errorf("%s: only %d times", what, seen[what])
		}
	}
}

// A way carries what is sent from one queue to another, and loses it by chance.
type way struct {
	t     *testing.T
	r     *rand.Rand
	out   *replay.Out
	in    *replay.In
	sent  []api.Frame
	taken []api.Frame
}

func (w *way) send() {
	f, err := w.out.Push(chanceFrame(w.r))
	if err == nil {
		w.sent = append(w.sent, f)
	}
}

// resend carries, of what is missing at the other end, the first frames.
func (w *way) resend(most int) {
	missing, err := w.out.Since(w.in.Got())
	if err != nil {
		w.t.Fatalf("Since(%d): %v", w.in.Got(), err)
	}
	for _, f := range missing[:min(most, len(missing))] {
		ok, err := w.in.Take(f)
		if err != nil || !ok {
			w.t.Fatalf("Take(%+v) = %v, %v", f, ok, err)
		}
		w.taken = append(w.taken, f)
	}
}

// stray carries one of the frames that were ever sent, once more or ahead of others.
func (w *way) stray() {
	if len(w.sent) == 0 {
		return
	}
	f := w.sent[w.r.Intn(len(w.sent))]
	ok, err := w.in.Take(f)
	if ok {
		w.taken = append(w.taken, f)
	} else if err != nil && err != api.ErrGap {
		w.t.Fatalf("Take(%+v): %v", f, err)
	}
}

// told acknowledges what the other end has, or had at some time.
func (w *way) told() {
	got := w.in.Got()
	if err := w.out.Ack(got - w.r.Intn(2)*w.r.Intn(got+1)); err != nil {
		w.t.Fatalf("Ack: %v", err)
	}
}

// P11.2: whatever is lost, taken twice, or acknowledged late: what was taken is at every step the beginning of what was sent, and all of it when Since was carried whole.
func TestWhateverIsLost(t *testing.T) {
	most := 0
	for seed := range int64(100) {
		w := &way{t: t, r: rand.New(rand.NewSource(seed)), out: replay.NewOut(), in: replay.NewIn()}
		for range 400 {
			switch w.r.Intn(8) {
			case 0:
				w.resend(w.r.Intn(6))
			case 1:
				w.stray()
			case 2:
				w.told()
			case 3:
				w.resend(len(w.sent))
				if len(w.taken) != len(w.sent) {
					t.Fatalf("seed %d: %d frames of %d were taken", seed, len(w.taken), len(w.sent))
				}
			default:
				w.send()
			}
			if len(w.taken) != w.in.Got() || len(w.sent) != w.out.Last() || !sameFrames(w.taken, w.sent[:len(w.taken)]) {
				t.Fatalf("seed %d: sent %d, Last %d, taken %d, Got %d, or in another order", seed, len(w.sent), w.out.Last(), len(w.taken), w.in.Got())
			}
		}
		w.resend(len(w.sent))
		if !sameFrames(w.taken, w.sent) {
			t.Fatalf("seed %d: %d frames of %d", seed, len(w.taken), len(w.sent))
		}
		most = max(most, len(w.sent))
	}
	if most < 100 {
		t.Errorf("at most %d frames were sent", most)
	}
}

// P11.2: every number of frames, every number of them that arrived, and every number of those that was acknowledged.
func TestEveryLoss(t *testing.T) {
	const most = 8
	for last := range most {
		for got := range last + 1 {
			for acked := range got + 1 {
				o, n := outOf(t, last, acked), inOf(t, got)
				missing, err := o.Since(n.Got())
				if err != nil || len(missing) != last-got {
					t.Fatalf("Since(%d) = %+v, %v", got, missing, err)
				}
				for i, f := range missing {
					take(t, n, f, true, nil, got+i+1)
				}
				since(t, o, n.Got())
				ack(t, o, n.Got(), nil)
				state(t, o, last, last, 0)
			}
		}
	}
}
