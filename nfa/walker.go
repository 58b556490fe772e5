package nfa

import (
	"maps"
	"math/bits"
	"slices"

	"homograph/byteset"
)

// walker is a machine's ways, by the states from which they lead.
// They are kept in maps, and not by number in lists, so that a Count that no built machine has does no harm.
type walker struct {
	count int
	eps   map[int][]int
	arcs  map[int][]Arc
}

func newWalker(a Nfa) walker {
	w := walker{a.Count, map[int][]int{}, map[int][]Arc{}}
	for _, e := range a.Eps {
		w.eps[e[0]] = append(w.eps[e[0]], e[1])
	}
	for _, arc := range a.Arcs {
		w.arcs[arc.From] = append(w.arcs[arc.From], arc)
	}
	return w
}

// close is the states among l, and those to which nothing leads from them, rising.
func (w walker) close(l []int) []int {
	var stack []int
	seen := marks{}
	visit := func(states []int) {
		for _, state := range states {
			if 0 <= state && state < w.count && seen.add(state) {
				stack = append(stack, state)
			}
		}
	}
	visit(l)
	for len(stack) > 0 {
		top := len(stack) - 1
		state := stack[top]
		stack = stack[:top]
		visit(w.eps[state])
	}
	return seen.rising()
}

// step is the states to which a byte, and then nothing, leads from l, rising.
func (w walker) step(l []int, b uint8) []int {
	var targets []int
	for _, state := range l {
		for _, arc := range w.arcs[state] {
			if byteset.Has(arc.Set, b) {
				targets = append(targets, arc.To)
			}
		}
	}
	return w.close(targets)
}

// marks is states, a bit for each, by blocks of consecutive ones: so a map of thousands of states stays small, and is soon in order.
type marks map[int]uint64

const block = 64

// add marks a state, and tells whether it had no mark.
func (m marks) add(state int) bool {
	old := m[state/block]
	marked := old | 1<<(state%block)
	m[state/block] = marked
	return marked != old
}

// rising is the states that have marks.
func (m marks) rising() []int {
	var l []int
	for _, at := range slices.Sorted(maps.Keys(m)) {
		for rest := m[at]; rest != 0; rest &= rest - 1 {
			l = append(l, at*block+bits.TrailingZeros64(rest))
		}
	}
	return l
}
