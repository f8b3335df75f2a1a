package proof

import "jackfield/api"

// refusal is what a call gives up with.
type refusal struct {
	why error
}

func giveUp(why error) { panic(refusal{why}) }

// answer is what a call answers, or why it gave up. Any other panic is a fault of the program, and goes on.
func answer[T any](call func() T) (out T, err error) {
	defer func() {
		switch end := recover().(type) {
		case nil:
		case refusal:
			err = end.why
		default:
			panic(end)
		}
	}()
	return call(), nil
}

// ask gives up unless an argument is as it has to be.
func ask[T any](argument T, holds func(T) bool, otherwise error) {
	if !holds(argument) {
		giveUp(otherwise)
	}
}

// sized asks for at least, and at most, so many bytes.
func sized[T []byte | string](least, most int) func(T) bool {
	return func(x T) bool { return least <= len(x) && len(x) <= most }
}

// askSecret asks a token or a key.
func askSecret(b []byte) { ask(b, sized[[]byte](1, api.MaxToken), api.ErrRange) }

func askNonce(b []byte) { ask(b, sized[[]byte](nonceSize, nonceSize), api.ErrRange) }

func askName(who string) { ask(who, sized[string](1, api.MaxWho), api.ErrRange) }

func askNumber(n int) {
	ask(n, func(n int) bool { return 0 <= n && n <= api.MaxTime }, api.ErrRange)
}
