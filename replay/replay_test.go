package replay_test

import (
	"bytes"
	"math"
	"strings"
	"testing"

	"jackfield/api"
	"jackfield/frame"
	"jackfield/replay"
)

func bytesOf(n int) []byte {
	b := make([]byte, n)
	for i := range b {
		b[i] = byte(i*7 + 1)
	}
	return b
}

func text(n int) string { return strings.Repeat("n", n) }

// data is a frame whose encoding has 21 bytes more than its data.
func data(n int) api.Frame {
	return api.Frame{Kind: api.FData, Stream: 1, Bytes: bytesOf(n)}
}

// drain is a frame of the shortest kind: its encoding has 16 bytes more than its name.
func drain(n int) api.Frame {
	return api.Frame{Kind: api.FDrain, Name: text(n)}
}

func end() api.Frame { return api.Frame{Kind: api.FEnd, Stream: 1} }

func numbered(f api.Frame, seq int) api.Frame {
	f.Seq = seq
	return f
}

// A sample is a sequenced frame without its Seq, and the size of its encoding.
type sample struct {
	f    api.Frame
	size int
}

// samples has each sequenced kind at its ordinary and at its greatest.
func samples() []sample {
	return []sample{
		{api.Frame{Kind: api.FOpen, Stream: 1, Name: "shop"}, 24},
		{api.Frame{Kind: api.FOpen, Stream: math.MaxInt32, Name: text(63)}, 83},
		{api.Frame{Kind: api.FAccept, Stream: 1}, 19},
		{api.Frame{Kind: api.FData, Stream: 1, Bytes: []byte("x")}, 22},
		{api.Frame{Kind: api.FData, Stream: 1, Bytes: bytesOf(512)}, 533},
		{api.Frame{Kind: api.FCredit, Stream: 2, Amount: 600}, 23},
		{api.Frame{Kind: api.FEnd, Stream: 3}, 19},
		{api.Frame{Kind: api.FReset, Stream: 1, Code: api.CodePower}, 20},
		{api.Frame{Kind: api.FReset, Stream: 1}, 20},
		{api.Frame{Kind: api.FRegister, Name: "shop", Weight: 2.5}, 28},
		{api.Frame{Kind: api.FRegister, Name: "shop", Weight: math.Float64frombits(0xfff8000000000123)}, 28},
		{api.Frame{Kind: api.FRegister, Name: "shop", Weight: math.Copysign(0, -1)}, 28},
		{api.Frame{Kind: api.FDrain, Name: "*.shop"}, 22},
		{api.Frame{Kind: api.FReserve, Who: "ann", Name: "shop"}, 24},
		{api.Frame{Kind: api.FRelease, Who: text(16), Name: "shop"}, 37},
		{api.Frame{Kind: api.FAnswer, Name: "shop", Code: api.CodeOwner}, 21},
	}
}

// plain has frames that layer 5 has valid, of all kinds that aren't sequenced.
func plain() []api.Frame {
	return []api.Frame{
		{Kind: api.FHello, Who: "ann/0", Got: 1},
		{Kind: api.FChallenge, Bytes: bytesOf(16)},
		{Kind: api.FProof, Bytes: bytesOf(32)},
		{Kind: api.FWelcome, Bytes: bytesOf(32)},
		{Kind: api.FRefuse, Code: api.CodeProof},
		{Kind: api.FAck},
		{Kind: api.FAck, Got: 1},
	}
}

// wrong has frames of sequenced kinds, or of none, that are invalid with any Seq.
func wrong() []api.Frame {
	return []api.Frame{
		{},
		{Kind: -1, Stream: 1},
		{Kind: 18, Stream: 1},
		{Kind: 256 + api.FEnd, Stream: 1},
		{Kind: math.MinInt},
		{Kind: math.MaxInt},
		{Kind: api.FOpen, Stream: 1},
		{Kind: api.FOpen, Stream: 1, Name: text(64)},
		{Kind: api.FOpen, Name: "shop"},
		{Kind: api.FAccept},
		{Kind: api.FAccept, Stream: 1 << 31},
		{Kind: api.FData, Stream: 1},
		{Kind: api.FData, Stream: 1, Bytes: bytesOf(513)},
		{Kind: api.FData, Stream: 1, Bytes: bytesOf(9000)},
		{Kind: api.FData, Stream: 1, Bytes: bytesOf(1), Name: "shop"},
		{Kind: api.FCredit, Stream: 1},
		{Kind: api.FCredit, Stream: 1, Amount: -1},
		{Kind: api.FEnd, Stream: -1},
		{Kind: api.FEnd, Stream: 1, Got: 1},
		{Kind: api.FEnd, Stream: 1, Weight: math.Copysign(0, -1)},
		{Kind: api.FReset, Stream: 1, Code: api.CodePower + 1},
		{Kind: api.FReset, Stream: 1, Code: -1},
		{Kind: api.FRegister, Weight: 1},
		{Kind: api.FDrain},
		{Kind: api.FReserve, Name: "shop"},
		{Kind: api.FRelease, Who: text(17), Name: "shop"},
		{Kind: api.FAnswer, Code: 14, Name: "shop"},
	}
}

func push(t *testing.T, o *replay.Out, f api.Frame) {
	t.Helper()
	fits := o.Fits(f)
	want := numbered(f, o.Last()+1)
	if g, err := o.Push(f); err != nil || !fits || !frame.Same(g, want) {
		t.Fatalf("Push(%+v) = %+v, %v, Fits %v; want %+v", f, g, err, fits, want)
	}
}

func noPush(t *testing.T, o *replay.Out, f api.Frame, want error) {
	t.Helper()
	fits := o.Fits(f)
	if g, err := o.Push(f); err != want || fits || !frame.Same(g, api.Frame{}) {
		t.Fatalf("Push(%+v) = %+v, %v, Fits %v; want %v", f, g, err, fits, want)
	}
}

func ack(t *testing.T, o *replay.Out, got int, want error) {
	t.Helper()
	if err := o.Ack(got); err != want {
		t.Fatalf("Ack(%d) = %v, want %v", got, err, want)
	}
}

func since(t *testing.T, o *replay.Out, got int, want ...api.Frame) {
	t.Helper()
	l, err := o.Since(got)
	if err != nil || len(l) != len(want) {
		t.Fatalf("Since(%d) = %+v, %v; want %+v", got, l, err, want)
	}
	for i := range l {
		if !frame.Same(l[i], want[i]) {
			t.Fatalf("Since(%d)[%d] = %+v, want %+v", got, i, l[i], want[i])
		}
	}
}

func noSince(t *testing.T, o *replay.Out, got int) {
	t.Helper()
	if l, err := o.Since(got); err != api.ErrGap || len(l) != 0 {
		t.Fatalf("Since(%d) = %+v, %v; want ErrGap", got, l, err)
	}
}

func state(t *testing.T, o *replay.Out, last, acked, bytes int) {
	t.Helper()
	if o.Last() != last || o.Acked() != acked || o.Bytes() != bytes {
		t.Fatalf("Last %d, Acked %d, Bytes %d; want %d, %d, %d", o.Last(), o.Acked(), o.Bytes(), last, acked, bytes)
	}
}

func take(t *testing.T, n *replay.In, f api.Frame, want bool, wantErr error, got int) {
	t.Helper()
	if ok, err := n.Take(f); ok != want || err != wantErr || n.Got() != got {
		t.Fatalf("Take(%+v) = %v, %v, Got %d; want %v, %v, %d", f, ok, err, n.Got(), want, wantErr, got)
	}
}

// outOf is a queue with n frames of 19 bytes, with some of them acknowledged.
func outOf(t *testing.T, n, acked int) *replay.Out {
	t.Helper()
	o := replay.NewOut()
	for range n {
		push(t, o, end())
	}
	ack(t, o, acked, nil)
	return o
}

// inOf is a queue in which n frames have arrived.
func inOf(t *testing.T, got int) *replay.In {
	t.Helper()
	n := replay.NewIn()
	for i := range got {
		take(t, n, numbered(end(), i+1), true, nil, i+1)
	}
	return n
}

// P11.1: the chapter's examples.
func TestExamples(t *testing.T) {
	o := replay.NewOut()
	push(t, o, end())
	push(t, o, data(1))
	state(t, o, 2, 0, 19+22)
	ack(t, o, 1, nil)
	since(t, o, 1, numbered(data(1), 2))
	noSince(t, o, 0)
	ack(t, o, 3, api.ErrGap)
	state(t, o, 2, 1, 22)
}

// P11.1: new queues.
func TestNew(t *testing.T) {
	o, n := replay.NewOut(), replay.NewIn()
	state(t, o, 0, 0, 0)
	since(t, o, 0)
	ack(t, o, 0, nil)
	for _, got := range []int{1, -1, 2, math.MaxInt, math.MinInt} {
		noSince(t, o, got)
		ack(t, o, got, api.ErrGap)
	}
	state(t, o, 0, 0, 0)
	if n.Got() != 0 {
		t.Errorf("Got %d", n.Got())
	}
}

// P11.1: each sequenced kind is numbered, whatever its Seq was, and is held with the bytes of its encoding.
func TestPushEveryKind(t *testing.T) {
	for _, seq := range []int{0, 1, 2, -1, 99, api.MaxTime, api.MaxTime + 1, math.MaxInt, math.MinInt} {
		o := replay.NewOut()
		var want []api.Frame
		total := 0
		for i, s := range samples() {
			push(t, o, numbered(s.f, seq))
			want = append(want, numbered(s.f, i+1))
			total += s.size
			state(t, o, i+1, 0, total)
			if b, err := frame.Put(want[i]); err != nil || len(b) != s.size {
				t.Fatalf("%+v has %d bytes, %v", want[i], len(b), err)
			}
		}
		since(t, o, 0, want...)
		for i := range want {
			since(t, o, i, want[i:]...)
			ack(t, o, i+1, nil)
			total -= samples()[i].size
			state(t, o, len(want), i+1, total)
		}
		since(t, o, len(want))
	}
}

// P11.1: what isn't sequenced or valid is refused, and changes nothing.
func TestPushRefuses(t *testing.T) {
	empty, o := replay.NewOut(), replay.NewOut()
	push(t, o, end())
	push(t, o, data(5))
	for _, f := range append(plain(), wrong()...) {
		for _, seq := range []int{0, 1, 3, -1} {
			noPush(t, empty, numbered(f, seq), api.ErrFrame)
			noPush(t, o, numbered(f, seq), api.ErrFrame)
		}
	}
	state(t, empty, 0, 0, 0)
	state(t, o, 2, 0, 19+26)
	since(t, o, 0, numbered(end(), 1), numbered(data(5), 2))
	push(t, o, end())
	since(t, o, 2, numbered(end(), 3))
}

// full is a queue with ReplayMax bytes held, in 16 frames, of which the first has 533.
func full(t *testing.T) *replay.Out {
	t.Helper()
	o := replay.NewOut()
	for range 15 {
		push(t, o, data(512))
	}
	push(t, o, data(api.ReplayMax-15*533-21))
	state(t, o, 16, 0, api.ReplayMax)
	return o
}

// P11.1: what is held and a frame more may have ReplayMax bytes, and not one more; ErrFrame goes ahead of ErrFull.
func TestFull(t *testing.T) {
	o := full(t)
	for _, s := range samples() {
		noPush(t, o, s.f, api.ErrFull)
	}
	for _, f := range append(plain(), wrong()...) {
		noPush(t, o, f, api.ErrFrame)
	}
	state(t, o, 16, 0, api.ReplayMax)
	ack(t, o, 0, nil)
	noPush(t, o, drain(1), api.ErrFull)
	ack(t, o, 1, nil)
	push(t, o, drain(1))
	noPush(t, o, data(512-16), api.ErrFull)
	state(t, o, 17, 1, api.ReplayMax-533+17)
	push(t, o, data(512-17))
	state(t, o, 18, 1, api.ReplayMax)
	noPush(t, o, drain(1), api.ErrFull)
	ack(t, o, 18, nil)
	state(t, o, 18, 18, 0)
	push(t, o, data(512))
	state(t, o, 19, 18, 533)
}

// P11.1: for every number of bytes that a data frame may leave, frames of up to that many fit.
func TestEveryRoom(t *testing.T) {
	for room := 0; room <= 533; room++ {
		o := full(t)
		ack(t, o, 1, nil)
		used := 533 - room
		if used >= 22 {
			push(t, o, data(used-21))
		} else if used >= 17 {
			push(t, o, drain(used-16))
		} else if used > 0 {
			continue
		}
		state(t, o, o.Last(), 1, api.ReplayMax-room)
		for _, f := range []api.Frame{drain(1), drain(2), end(), data(1), data(2), data(300), data(512), data(max(1, room-22)), data(min(512, max(1, room-21))), data(min(512, max(1, room-20)))} {
			b, err := frame.Put(numbered(f, 1))
			if err != nil || o.Fits(f) != (len(b) <= room) {
				t.Fatalf("room for %d: a frame of %d bytes: Fits %v, %v", room, len(b), o.Fits(f), err)
			}
			if len(b) > room {
				noPush(t, o, f, api.ErrFull)
			}
		}
	}
}

// P11.1: small frames fill the queue too, and go on filling it however much has gone through it.
func TestManySmallFrames(t *testing.T) {
	o := replay.NewOut()
	const most = api.ReplayMax / 17
	for i := range 3000 {
		if i >= most {
			noPush(t, o, drain(1), api.ErrFull)
			ack(t, o, i-most+1, nil)
		}
		push(t, o, drain(1))
		state(t, o, i+1, max(0, i+1-most), min(i+1, most)*17)
	}
	since(t, o, 2998, numbered(drain(1), 2999), numbered(drain(1), 3000))
	noSince(t, o, 3000-most-1)
	if l, err := o.Since(3000 - most); err != nil || len(l) != most || l[0].Seq != 3001-most || l[most-1].Seq != 3000 {
		t.Errorf("%d frames, %v", len(l), err)
	}
}

// P11.1: every Ack of every short queue: those up to it go, and an older one, or one that is refused, changes nothing.
func TestAck(t *testing.T) {
	const most = 6
	for last := range most {
		for acked := range last + 1 {
			for got := -3; got < last+4; got++ {
				o := outOf(t, last, acked)
				state(t, o, last, acked, 19*(last-acked))
				want, now := error(nil), max(got, acked)
				if got < 0 || got > last {
					want, now = api.ErrGap, acked
				}
				ack(t, o, got, want)
				state(t, o, last, now, 19*(last-now))
				ack(t, o, got, want)
				state(t, o, last, now, 19*(last-now))
				push(t, o, data(1))
				state(t, o, last+1, now, 19*(last-now)+22)
				since(t, o, last, numbered(data(1), last+1))
			}
			o := outOf(t, last, acked)
			for _, got := range []int{math.MinInt, math.MaxInt, api.MaxTime, -api.MaxTime} {
				ack(t, o, got, api.ErrGap)
				state(t, o, last, acked, 19*(last-acked))
			}
		}
	}
}

// P11.1: every Since of every short queue, which changes nothing.
func TestSince(t *testing.T) {
	const most = 6
	for last := range most {
		var all []api.Frame
		for i := range last {
			all = append(all, numbered(end(), i+1))
		}
		for acked := range last + 1 {
			o := outOf(t, last, acked)
			for got := -3; got < last+4; got++ {
				if got < acked || got > last {
					noSince(t, o, got)
				} else {
					since(t, o, got, all[got:]...)
				}
				state(t, o, last, acked, 19*(last-acked))
			}
			for _, got := range []int{math.MinInt, math.MaxInt} {
				noSince(t, o, got)
			}
		}
	}
}

// P11.1: Take of every Seq near to what has arrived: the next one is taken, those up to it have arrived already, and behind it is a gap.
func TestTake(t *testing.T) {
	for got := range 6 {
		for seq := 1; seq < got+5; seq++ {
			for _, s := range samples() {
				n := inOf(t, got)
				switch f := numbered(s.f, seq); {
				case seq <= got:
					take(t, n, f, false, nil, got)
				case seq == got+1:
					take(t, n, f, true, nil, got+1)
					take(t, n, f, false, nil, got+1)
				default:
					take(t, n, f, false, api.ErrGap, got)
				}
			}
		}
		n := inOf(t, got)
		take(t, n, numbered(end(), api.MaxTime), false, api.ErrGap, got)
		take(t, n, numbered(end(), got+1), true, nil, got+1)
	}
}

// P11.1: what isn't sequenced or valid isn't taken, whether it has arrived, is next, or is behind a gap.
func TestTakeRefuses(t *testing.T) {
	n := inOf(t, 2)
	for _, f := range append(plain(), wrong()...) {
		for seq := range 6 {
			take(t, n, numbered(f, seq), false, api.ErrFrame, 2)
		}
	}
	for _, s := range samples() {
		for _, seq := range []int{0, -1, -2, api.MaxTime + 1, math.MaxInt, math.MinInt} {
			take(t, n, numbered(s.f, seq), false, api.ErrFrame, 2)
			take(t, replay.NewIn(), numbered(s.f, seq), false, api.ErrFrame, 0)
		}
	}
	take(t, n, numbered(end(), 3), true, nil, 3)
}

// P11.1: queues know nothing of one another.
func TestQueuesApart(t *testing.T) {
	o, p := outOf(t, 3, 1), replay.NewOut()
	push(t, p, data(9))
	ack(t, p, 1, nil)
	state(t, o, 3, 1, 38)
	state(t, p, 1, 1, 0)
	n, m := inOf(t, 3), replay.NewIn()
	take(t, m, numbered(end(), 2), false, api.ErrGap, 0)
	take(t, n, numbered(end(), 4), true, nil, 4)
	if m.Got() != 0 {
		t.Errorf("Got %d", m.Got())
	}
}

func scribble(b []byte) {
	b = b[:cap(b)]
	for i := range b {
		b[i] = 0xdd
	}
}

// Rule 4: what is given isn't changed, nor what stands behind it, and isn't kept.
func TestGivenIsTheCallers(t *testing.T) {
	o, n := replay.NewOut(), replay.NewIn()
	room := append(bytesOf(40), "behind"...)
	before := bytes.Clone(room)
	f := api.Frame{Kind: api.FData, Seq: 1, Stream: 1, Bytes: room[:40]}
	if !o.Fits(f) {
		t.Fatal("it doesn't fit")
	}
	push(t, o, f)
	take(t, n, f, true, nil, 1)
	if !bytes.Equal(room, before) {
		t.Errorf("%x was %x", room, before)
	}
	scribble(room)
	since(t, o, 0, numbered(data(40), 1))
}

// Rule 4: what is answered is new, and stays as it is whatever becomes of the queue or of another answer.
func TestAnswersAreNew(t *testing.T) {
	o := replay.NewOut()
	pushed, err := o.Push(data(40))
	if err != nil {
		t.Fatal(err)
	}
	scribble(pushed.Bytes)
	kept, err := o.Push(data(41))
	if err != nil {
		t.Fatal(err)
	}
	want := []api.Frame{numbered(data(40), 1), numbered(data(41), 2)}
	first, err := o.Since(0)
	if err != nil || len(first) != 2 {
		t.Fatal(first, err)
	}
	scribble(first[0].Bytes)
	if !frame.Same(first[1], want[1]) {
		t.Errorf("two frames of an answer share memory")
	}
	scribble(first[1].Bytes)
	clear(first[:cap(first)])
	since(t, o, 0, want...)
	second, err := o.Since(1)
	ack(t, o, 2, nil)
	push(t, o, data(7))
	if err != nil || !frame.Same(second[0], want[1]) || !frame.Same(kept, want[1]) {
		t.Errorf("answers have become %+v, %+v", second, kept)
	}
}
