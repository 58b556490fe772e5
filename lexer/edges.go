package lexer

import (
	"iter"
	"math/bits"

	"homograph/api"
	"homograph/dfa"
)

// edges gives what a machine ends in a text from a place on: by where it ends, then by number.
func edges(m api.Machine, s string, from int) iter.Seq[api.Edge] {
	return func(yield func(api.Edge) bool) {
		for to, state := range visits(m, s, from) {
			// Each turn clears the lowest bit.
			for ends := m[state].Accept; ends != 0; ends &= ends - 1 {
				if !yield(api.Edge{Token: bits.TrailingZeros64(ends), From: from, To: to}) {
					return
				}
			}
		}
	}
}

// visits gives each place from one on, with the state in which a machine is there, up to where it is in none.
func visits(m api.Machine, s string, from int) iter.Seq2[int, int] {
	return func(yield func(int, int) bool) {
		if from < 0 || from > len(s) {
			return
		}
		// An arc of a machine that a caller makes may lead to what is no state, and no arc leads on from there.
		for to, state := from, 0; 0 <= state && state < len(m); to++ {
			if !yield(to, state) || to == len(s) {
				return
			}
			state = dfa.Next(m, state, s[to])
		}
	}
}
