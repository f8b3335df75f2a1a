package sock_test

import (
	"bytes"
	"fmt"
	"math"
	"math/rand"
	"testing"

	"jackfield/api"
	"jackfield/sock"
)

// model says the chapter a second time, with flights and inboxes as lists of their own; the tests below hold the package against it.
type model struct {
	room   int
	flight [2][]byte
	inbox  [2][]byte
	shut   [2]bool
	cut    bool
	whole  [2]bool // at the moment of the cut the other end was shut, and had no flight

	accepted [2][]byte // what an end's Writes accepted in total
	read     [2][]byte // what an end has read in total
}

func known(end int) bool { return end == 0 || end == 1 }

func (m *model) write(end int, b []byte) (int, error) {
	switch {
	case !known(end):
		return 0, api.ErrRange
	case m.cut:
		return 0, api.ErrBroken
	case m.shut[end]:
		return 0, api.ErrState
	}
	b = b[:min(len(b), m.left(end))]
	m.flight[end] = bytes.Join([][]byte{m.flight[end], b}, nil)
	m.accepted[end] = append(m.accepted[end], b...)
	return len(b), nil
}

func (m *model) close(end int) error {
	switch {
	case !known(end):
		return api.ErrRange
	case m.cut:
		return api.ErrBroken
	}
	m.shut[end] = true
	return nil
}

func (m *model) carry(end, n int) (int, error) {
	switch {
	case !known(end) || n < 0:
		return 0, api.ErrRange
	case m.cut:
		return 0, api.ErrBroken
	}
	n = min(n, len(m.flight[end]))
	m.inbox[1-end] = bytes.Join([][]byte{m.inbox[1-end], m.flight[end][:n]}, nil)
	m.flight[end] = bytes.Clone(m.flight[end][n:])
	return n, nil
}

func (m *model) take(end, n int) ([]byte, error) {
	switch {
	case !known(end) || n < 0:
		return nil, api.ErrRange
	case m.cut && len(m.inbox[end]) == 0:
		return nil, api.ErrBroken
	}
	n = min(n, len(m.inbox[end]))
	out := m.inbox[end][:n]
	m.inbox[end] = bytes.Clone(m.inbox[end][n:])
	return out, nil
}

func (m *model) tear() {
	if m.cut {
		return
	}
	for end := range 2 {
		m.whole[end] = m.shut[1-end] && len(m.flight[1-end]) == 0
	}
	m.flight = [2][]byte{}
	m.cut = true
}

func (m *model) ended(end int) bool {
	switch {
	case !known(end) || len(m.inbox[end]) > 0:
		return false
	case m.cut:
		return m.whole[end]
	}
	return m.shut[1-end] && len(m.flight[1-end]) == 0
}

func (m *model) left(end int) int {
	if !known(end) || m.shut[end] || m.cut {
		return 0
	}
	return m.room - len(m.flight[end]) - len(m.inbox[1-end])
}

// A step is one call of a pair, by its letter: Write, Shut, Carry, Read, Cut.
type step struct {
	letter byte
	end, n int // n: for Write how many bytes, else the count
}

func (s step) String() string {
	switch s.letter {
	case 'w':
		return fmt.Sprintf("Write(%d, %d bytes)", s.end, s.n)
	case 's':
		return fmt.Sprintf("Shut(%d)", s.end)
	case 'c':
		return fmt.Sprintf("Carry(%d, %d)", s.end, s.n)
	case 'r':
		return fmt.Sprintf("Read(%d, %d)", s.end, s.n)
	}
	return "Cut()"
}

// A play is a pair and its model, which take the same steps.
type play struct {
	pair  *sock.Pair
	model model
	next  byte // of the bytes that are written, so that no two near ones are the same
}

func newPlay(t *testing.T, room int) *play {
	t.Helper()
	p, err := sock.New(room)
	if err != nil || p == nil {
		t.Fatalf("New(%d) = %v, %v", room, p, err)
	}
	return &play{pair: p, model: model{room: room}}
}

func (p *play) some(n int) []byte {
	b := make([]byte, n)
	for i := range b {
		b[i] = p.next
		p.next++
		if p.next == 251 {
			p.next = 0
		}
	}
	return b
}

// take plays a step on both, and is "" or how they differ.
func (p *play) take(s step) string {
	var got, want string
	switch s.letter {
	case 'w':
		b := p.some(s.n)
		n, err := p.pair.Write(s.end, b)
		m, want1 := p.model.write(s.end, b)
		got, want = fmt.Sprint(n, err), fmt.Sprint(m, want1)
	case 's':
		got, want = fmt.Sprint(p.pair.Shut(s.end)), fmt.Sprint(p.model.close(s.end))
	case 'c':
		n, err := p.pair.Carry(s.end, s.n)
		m, want1 := p.model.carry(s.end, s.n)
		got, want = fmt.Sprint(n, err), fmt.Sprint(m, want1)
	case 'r':
		b, err := p.pair.Read(s.end, s.n)
		c, want1 := p.model.take(s.end, s.n)
		if known(s.end) {
			p.model.read[s.end] = append(p.model.read[s.end], b...)
		}
		got, want = fmt.Sprintf("%x %v", b, err), fmt.Sprintf("%x %v", c, want1)
	default:
		p.pair.Cut()
		p.model.tear()
	}
	if got != want {
		return fmt.Sprintf("%v = %s, want %s", s, got, want)
	}
	if diff := p.differs(); diff != "" {
		return fmt.Sprintf("after %v: %s", s, diff)
	}
	return ""
}

// differs asks all that can be asked without a change (P3.1), and whether the bytes read are what they must be (P3.2).
func (p *play) differs() string {
	if got := p.pair.Broken(); got != p.model.cut {
		return fmt.Sprintf("Broken() = %v", got)
	}
	for end := -1; end <= 2; end++ {
		flight, inbox := 0, 0
		if known(end) {
			flight, inbox = len(p.model.flight[end]), len(p.model.inbox[end])
		}
		got := fmt.Sprint(p.pair.Ended(end), p.pair.Room(end), p.pair.Flight(end), p.pair.Inbox(end))
		want := fmt.Sprint(p.model.ended(end), p.model.left(end), flight, inbox)
		if got != want {
			return fmt.Sprintf("Ended, Room, Flight, Inbox of %d = %s, want %s", end, got, want)
		}
	}
	for end := range 2 {
		read, sent := p.model.read[end], p.model.accepted[1-end]
		if !bytes.HasPrefix(sent, read) {
			return fmt.Sprintf("end %d has read %x of %x", end, read, sent)
		}
		if p.pair.Ended(end) && len(read) != len(sent) {
			return fmt.Sprintf("end %d has ended, with %d bytes of %d", end, len(read), len(sent))
		}
	}
	return ""
}

func (p *play) takeAll(t *testing.T, steps []step) {
	t.Helper()
	for i, s := range steps {
		if diff := p.take(s); diff != "" {
			t.Fatalf("room %d, %v: %s", p.model.room, steps[:i+1], diff)
		}
	}
}

// P3.1, P3.2: every order of up to five calls from a set of them, on pairs of little room.
func TestEveryOrder(t *testing.T) {
	calls := []step{
		{'w', 0, 2}, {'w', 1, 1}, {'s', 0, 0}, {'s', 1, 0}, {'c', 0, 1}, {'c', 0, 9}, {'c', 1, 1},
		{'r', 0, 9}, {'r', 1, 1}, {'r', 1, 0}, {'x', 0, 0},
	}
	steps := make([]step, 5)
	orders := 1
	for range steps {
		orders *= len(calls)
	}
	for _, room := range []int{1, 3} {
		for order := range orders {
			for i := range steps {
				steps[i] = calls[order%len(calls)]
				order /= len(calls)
			}
			newPlay(t, room).takeAll(t, steps)
		}
	}
}

// P3.1, P3.2: a cut at every byte: after each number of bytes written, carried and read, each end shut or not, and what can be read behind it.
func TestCutAnywhere(t *testing.T) {
	const room = 5
	for end := range 2 {
		for written := range room + 1 {
			for carried := range written + 1 {
				for read := range carried + 1 {
					for shut := range 4 {
						steps := []step{{'w', end, written}, {'c', end, carried}, {'r', 1 - end, read}}
						if shut&1 > 0 {
							steps = append(steps, step{'s', end, 0})
						}
						if shut&2 > 0 {
							steps = append(steps, step{'s', 1 - end, 0})
						}
						steps = append(steps, step{letter: 'x'}, step{'c', end, 9}, step{'w', end, 1}, step{'s', end, 0}, step{letter: 'x'})
						for range carried - read + 1 {
							steps = append(steps, step{'r', 1 - end, 1})
						}
						steps = append(steps, step{'r', end, 1}, step{letter: 'x'})
						newPlay(t, room).takeAll(t, steps)
					}
				}
			}
		}
	}
}

// chance is a step by chance; some of them have a wrong end or a wrong count.
func chance(r *rand.Rand, room int, cuts bool) step {
	s := step{letter: "wwwwwcccccrrrrr"[r.Intn(15)], end: r.Intn(2), n: r.Intn(room + 2)}
	if r.Intn(3) == 0 {
		s.n = r.Intn(3)
	}
	switch k := r.Intn(100); {
	case k < 3:
		s.end = []int{-1, 2, 3, math.MinInt, math.MaxInt}[r.Intn(5)]
	case k < 6 && s.letter != 'w':
		s.n = []int{-1, -2, math.MinInt, math.MaxInt}[r.Intn(4)]
	case k < 7:
		s.letter = 's'
	case k < 8 && cuts:
		s.letter = 'x'
	}
	return s
}

// P3.1, P3.2: calls by chance, of all kinds, on pairs of all sizes.
func TestManyOrders(t *testing.T) {
	r := rand.New(rand.NewSource(3))
	rooms := []int{1, 2, 3, 7, 64, 300, 4096}
	for i := range 2000 {
		room := rooms[i%len(rooms)]
		steps := make([]step, 0, 200)
		for range 200 {
			steps = append(steps, chance(r, room, i%3 > 0))
		}
		newPlay(t, room).takeAll(t, steps)
	}
}

// P3.2: a pair that is never cut delivers everything, however it is carried and read, and then its ends have ended.
func TestAllArrives(t *testing.T) {
	r := rand.New(rand.NewSource(4))
	for _, room := range []int{1, 2, 5, 100, api.MaxRoom} {
		p := newPlay(t, room)
		for range 300 {
			for end := range 2 {
				p.takeAll(t, []step{{'w', end, r.Intn(9)}, {'c', end, r.Intn(9)}, {'r', 1 - end, r.Intn(9)}})
			}
		}
		p.takeAll(t, []step{{'s', 0, 0}, {'s', 1, 0}, {'c', 0, math.MaxInt}, {'r', 1, math.MaxInt}, {'c', 1, math.MaxInt}, {'r', 0, math.MaxInt}})
		for end := range 2 {
			if !p.pair.Ended(end) || !bytes.Equal(p.model.read[end], p.model.accepted[1-end]) || len(p.model.read[end]) == 0 {
				t.Errorf("room %d: end %d has read %d bytes of %d, Ended = %v", room, end, len(p.model.read[end]), len(p.model.accepted[1-end]), p.pair.Ended(end))
			}
		}
	}
}
