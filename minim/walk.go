package minim

import (
	"slices"

	"homograph/api"
)

// couple is two machines that go through the same text.
type couple [2]api.Machine

// pair is where the two of them are: each in a state, or nowhere.
type pair [2]int

// first is where they are ahead of the text.
func (c couple) first() pair {
	var p pair
	for i, m := range c {
		if len(m) == 0 {
			p[i] = nowhere
		}
	}
	return p
}

// differ tells whether they end something else at a pair.
func (c couple) differ(p pair) bool {
	var ends [2]uint64
	for i, state := range p {
		if state != nowhere {
			ends[i] = c[i][state].Accept
		}
	}
	return ends[0] != ends[1]
}

// step is how a pair was come to.
type step struct {
	from pair
	by   uint8
}

// walk goes from pair to pair, by the shortest texts first.
type walk struct {
	couple
	order []pair        // in which they were come to
	steps map[pair]step // to each of them
	sames *sames
}

func newWalk(c couple) *walk {
	return &walk{couple: c, steps: map[pair]step{}, sames: newSames(len(c[0]) + len(c[1]) + 1)}
}

// find is the shortest text to a wanted pair.
func (w *walk) find(wanted func(pair) bool) (string, bool) {
	w.visit(w.first(), step{})
	for i := 0; i < len(w.order); i++ {
		if wanted(w.order[i]) {
			return w.text(w.order[i]), true
		}
		w.goOn(w.order[i])
	}
	return "", false
}

// goOn visits the pairs behind a pair.
func (w *walk) goOn(from pair) {
	left, right := targets(w.couple[0], from[0]), targets(w.couple[1], from[1])
	for b := range byteCount {
		w.visit(pair{left[b], right[b]}, step{from, uint8(b)})
	}
}

// visit takes up a pair, unless its two are in one group already: they end the same behind all texts if those of each earlier pair do.
//
// Such a pair isn't on the way of the shortest text to a difference: what is left of that text behind it would tell the two of an earlier pair apart as well, and the text to there is shorter. So no more pairs are taken up than there are states.
func (w *walk) visit(p pair, by step) {
	if w.sames.join(w.mark(0, p[0]), w.mark(1, p[1])) {
		w.order = append(w.order, p)
		w.steps[p] = by
	}
}

// mark stands for a state of one of the machines, or for nowhere, which both have in common.
func (w *walk) mark(machine, state int) int {
	if state == nowhere {
		return 0
	}
	return 1 + machine*len(w.couple[0]) + state
}

// text is the bytes by which a pair was come to.
func (w *walk) text(p pair) string {
	var l []byte
	for p != w.order[0] {
		l = append(l, w.steps[p].by)
		p = w.steps[p].from
	}
	slices.Reverse(l)
	return string(l)
}
