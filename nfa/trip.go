package nfa

// trip is a walker that remembers its steps: in a long text the same ones come again and again.
type trip struct {
	walker
	known map[string][]int // where a step leads, by its byte and the states from which it leads
	kept  int
	key   []byte
}

// maxKept is how many bytes and states a trip remembers at most.
const maxKept = 1 << 20

func newTrip(a Nfa) *trip { return &trip{walker: newWalker(a), known: map[string][]int{}} }

// step is the same as a walker's.
func (t *trip) step(l []int, b uint8) []int {
	t.key = append(t.key[:0], b)
	for _, state := range l {
		t.key = appendNumber(t.key, state)
	}
	if there, ok := t.known[string(t.key)]; ok {
		return there
	}
	there := t.walker.step(l, b)
	t.keep(string(t.key), there)
	return there
}

// keep remembers a step; when they have become too many, it forgets all others.
func (t *trip) keep(key string, there []int) {
	t.kept += len(key) + len(there)
	if t.kept > maxKept {
		clear(t.known)
		t.kept = len(key) + len(there)
	}
	t.known[key] = there
}

// appendNumber writes a number that isn't below 0, in such a way that no two lists of numbers are written alike.
func appendNumber(l []byte, n int) []byte {
	const more = 0x80
	for ; n >= more; n /= more {
		l = append(l, uint8(n%more)+more)
	}
	return append(l, uint8(n))
}
