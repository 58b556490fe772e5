package dfa

import (
	"iter"

	"homograph/api"
)

const byteCount = 256

// runs gives the maximal runs of consecutive bytes that have the same target, also of those that lead nowhere, rising.
func runs(to [byteCount]int) iter.Seq[api.Arc] {
	return func(yield func(api.Arc) bool) {
		lo := 0
		for b := range byteCount {
			if b < byteCount-1 && to[b+1] == to[lo] {
				continue
			}
			if !yield(api.Arc{Lo: uint8(lo), Hi: uint8(b), To: to[lo]}) {
				return
			}
			lo = b + 1
		}
	}
}

// arcsFit tells whether a state of a machine of so many states may have these arcs.
func arcsFit(l []api.Arc, states int) bool {
	for i, arc := range l {
		if arc.Lo > arc.Hi || !isState(arc.To, states) || i > 0 && !follows(l[i-1], arc) {
			return false
		}
	}
	return true
}

// follows tells whether an arc may stand behind another one: it must not meet it, nor only lengthen it.
func follows(before, arc api.Arc) bool {
	// As ints, because a uint8 would begin again behind 255.
	gap := int(arc.Lo) - int(before.Hi)
	return gap > 1 || gap == 1 && arc.To != before.To
}
