package dfacode

import "homograph/api"

// unseal is bytes without the seal behind them, if that is theirs.
func unseal(b []byte) ([]byte, bool) {
	var found [4]byte
	at := len(b) - len(found)
	if at < 0 {
		return nil, false
	}
	copy(found[:], b[at:])
	return b[:at], found == seal(b[:at])
}

// reader reads bytes, one behind the other. Behind its first error, which it keeps, it has nothing left and reads zeros.
type reader struct {
	left []byte
	err  api.Errno
}

func (r *reader) fail() { r.left, r.err = nil, api.ErrCode }

// one is the next byte.
func (r *reader) one() uint8 {
	if len(r.left) == 0 {
		r.fail()
		return 0
	}
	b := r.left[0]
	r.left = r.left[1:]
	return b
}

// number is the next number.
func (r *reader) number() uint64 {
	n, length := Value(r.left)
	if length == 0 {
		r.fail()
		return 0
	}
	r.left = r.left[length:]
	return n
}

// upTo is the next number, as an int. It is held against what it may be at most ahead of that, because a greater one need not be an int.
func (r *reader) upTo(most int) int {
	n := r.number()
	if n > uint64(most) {
		r.fail()
		return 0
	}
	return int(n)
}

// state is the next state.
func (r *reader) state() api.State {
	// A state has an arc for each byte at most.
	return api.State{Accept: r.number(), Arcs: list(r, 256, r.arc)}
}

// arc is the next arc.
func (r *reader) arc() api.Arc {
	return api.Arc{Lo: r.one(), Hi: r.one(), To: r.upTo(api.MaxStates)}
}

// list is as many elements as the next number tells, which may be so many at most. They are read one by one, so that a great number of which nothing follows takes no memory.
func list[T any](r *reader, most int, element func() T) []T {
	var l []T
	for count := r.upTo(most); len(l) < count && r.err == api.OK; {
		l = append(l, element())
	}
	return l
}
