package proof

import (
	"testing"

	"jackfield/api"
	"jackfield/fields"
)

// P10.1: whatever a call gives up with is its error, and what it would have answered is gone.
func TestAnswerOfGivingUp(t *testing.T) {
	for _, want := range []error{api.ErrRange, api.ErrProof} {
		n, err := answer(func() int {
			ask("x", func(string) bool { return true }, api.ErrState)
			ask(7, func(n int) bool { return n != 7 }, want)
			return 7
		})
		if n != 0 || err != want {
			t.Errorf("given up with %v: %d, %v", want, n, err)
		}
	}
	b, err := answer(func() []byte { return encoded("b", fields.Cell{N: 256}) })
	if len(b) != 0 || err != api.ErrRange {
		t.Errorf("a field that doesn't fit: %x, %v", b, err)
	}
	if n, err := answer(func() int { return 7 }); n != 7 || err != nil {
		t.Errorf("nothing given up: %d, %v", n, err)
	}
}

// P10.1: a fault of the program isn't told as an error of the arguments, or as no error at all.
func TestAnswerOfFault(t *testing.T) {
	for _, fault := range []any{"fault", 7, api.ErrRange} {
		func() {
			defer func() {
				if got := recover(); got != fault {
					t.Errorf("a panic of %v has become %v", fault, got)
				}
			}()
			n, err := answer(func() int { panic(fault) })
			t.Errorf("a panic of %v is answered %d, %v", fault, n, err)
		}()
	}
}
