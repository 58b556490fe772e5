package dfa_test

import (
	"math"
	"slices"
	"testing"

	"homograph/api"
	"homograph/dfa"
	"homograph/drawn"
)

// P7.1: Arcs

func mustArcs(t *testing.T, name string, to [256]int, want ...api.Arc) {
	t.Helper()
	if got := dfa.Arcs(to); !slices.Equal(got, want) {
		t.Errorf("Arcs of %s = %v, want %v", name, got, want)
	}
}

// table is where each byte leads: to other, but for the bytes of arcs.
func table(other int, arcs ...api.Arc) [256]int {
	var to [256]int
	for b := range to {
		to[b] = other
		for _, a := range arcs {
			if int(a.Lo) <= b && b <= int(a.Hi) {
				to[b] = a.To
			}
		}
	}
	return to
}

func TestArcs(t *testing.T) {
	for name, arcs := range map[string][]api.Arc{
		"one byte": {arc('a', 'a', 3)}, "one run": {arc('a', 'z', 3)}, "state 0": {arc('a', 'c', 0)}, "the greatest number": {arc('a', 'c', math.MaxInt)},
		"byte 0": {arc(0, 0, 1)}, "byte 255": {arc(255, 255, 1)}, "a run from byte 0 on": {arc(0, 7, 1)}, "a run up to byte 255": {arc(250, 255, 1)}, "both": {arc(0, 7, 1), arc(250, 255, 1)}, "bytes 0 and 255": {arc(0, 0, 1), arc(255, 255, 1)},
		"all but byte 0": {arc(1, 255, 1)}, "all but byte 255": {arc(0, 254, 1)}, "all but one byte": {arc(0, 99, 2), arc(101, 255, 2)}, "all bytes": {arc(0, 255, 2)}, "bytes 63 to 64": {arc(63, 64, 0)},
		"runs that touch": {arc('a', 'c', 1), arc('d', 'd', 2), arc('e', 'z', 1)}, "runs that touch, of all bytes": {arc(0, 127, 1), arc(128, 255, 0)}, "runs apart": {arc('a', 'c', 1), arc('e', 'g', 1), arc('i', 'i', 0)},
		"falling targets": {arc(0, 0, 9), arc(1, 1, 8), arc(2, 254, 7), arc(255, 255, 6)},
	} {
		mustArcs(t, name, table(-1, arcs...), arcs...)
		mustArcs(t, name+" beside other numbers below 0", table(math.MinInt, arcs...), arcs...)
	}
}

func TestArcsOfTargetsThatAreAllAlike(t *testing.T) {
	for _, to := range []int{-1, -2, math.MinInt} {
		mustArcs(t, "nowhere", table(to))
	}
	for _, to := range []int{0, 1, 4095, 4096, math.MaxInt} {
		mustArcs(t, "all bytes to one state", table(to), arc(0, 255, to))
	}
	var below [256]int
	for b := range below {
		below[b] = -1 - b%3
	}
	mustArcs(t, "nowhere, by different numbers", below)
}

func TestArcsOfTargetsThatAreAllDifferent(t *testing.T) {
	var rising, falling, alternating [256]int
	var up, down, zigzag, half []api.Arc
	for b := range 256 {
		rising[b], falling[b], alternating[b] = b, 255-b, b%2
		up, down, zigzag = append(up, arc(uint8(b), uint8(b), b)), append(down, arc(uint8(b), uint8(b), 255-b)), append(zigzag, arc(uint8(b), uint8(b), b%2))
		if b%2 == 1 {
			half = append(half, arc(uint8(b), uint8(b), 0))
		}
	}
	mustArcs(t, "each byte to another state", rising, up...)
	mustArcs(t, "each byte to another state, falling", falling, down...)
	mustArcs(t, "two states by turns", alternating, zigzag...)
	for b := range alternating {
		alternating[b]--
	}
	mustArcs(t, "a state and nowhere by turns", alternating, half...)
}

func TestArcsOfDrawnTargets(t *testing.T) {
	s := drawn.Source(1)
	for range 3000 {
		var to [256]int
		states, change := 1+s.Below(5), 1+s.Below(60)
		for b := range to {
			if b > 0 && s.Below(change) > 0 {
				to[b] = to[b-1]
			} else {
				to[b] = s.Below(states+2) - 2
			}
		}
		mustArcs(t, "drawn targets", to, drawn.ArcsOf(to)...)
	}
}

// P7.1: Check

func mustCheck(t *testing.T, name string, m api.Machine, want api.Errno) {
	t.Helper()
	if got := dfa.Check(m); got != want {
		t.Errorf("Check of %s = %d, want %d", name, got, want)
	}
}

func TestCheckOfArcs(t *testing.T) {
	for name, arcs := range map[string][]api.Arc{
		"no arcs": nil, "one": {arc('a', 'c', 1)}, "one byte": {arc('a', 'a', 0)}, "all bytes": {arc(0, 255, 1)}, "bytes 0 and 255": {arc(0, 0, 1), arc(255, 255, 1)},
		"apart": {arc('a', 'c', 0), arc('f', 'g', 1)}, "apart, to the same state": {arc('a', 'c', 1), arc('f', 'g', 1)}, "one byte apart, to the same state": {arc('a', 'c', 1), arc('e', 'g', 1)},
		"touching, to another state": {arc('a', 'c', 1), arc('d', 'g', 0)}, "touching at both ends": {arc(0, 'c', 1), arc('d', 'd', 0), arc('e', 255, 1)}, "to the last state": {arc('a', 'c', 1)}, "to state 0": {arc('a', 'c', 0)},
	} {
		mustCheck(t, name, api.Machine{state(0, arcs...), state(1)}, api.OK)
		mustCheck(t, name+" in the last state", api.Machine{state(1), state(0, arcs...)}, api.OK)
	}
	for name, arcs := range map[string][]api.Arc{
		"Lo above Hi": {arc('b', 'a', 0)}, "Lo 255, Hi 0": {arc(255, 0, 0)}, "Lo above Hi behind another one": {arc('a', 'b', 0), arc('d', 'c', 1)},
		"To the number of states": {arc('a', 'a', 2)}, "To far above": {arc('a', 'a', math.MaxInt)}, "To -1": {arc('a', 'a', -1)}, "To far below": {arc('a', 'a', math.MinInt)}, "To of the last one": {arc('a', 'a', 0), arc('c', 'c', 1), arc('e', 'e', 2)},
		"the same twice": {arc('a', 'a', 0), arc('a', 'a', 0)}, "overlapping": {arc('a', 'c', 0), arc('c', 'd', 1)}, "overlapping, to the same state": {arc('a', 'c', 0), arc('b', 'd', 0)}, "one inside another one": {arc('a', 'e', 0), arc('b', 'c', 1)}, "one around another one": {arc('b', 'c', 1), arc('a', 'e', 0)},
		"another order": {arc('c', 'd', 0), arc('a', 'a', 1)}, "another order, touching": {arc('c', 'd', 0), arc('a', 'b', 1)}, "another order, touching, to the same state": {arc('c', 'd', 1), arc('a', 'b', 1)}, "255 ahead of 0": {arc(255, 255, 0), arc(0, 0, 1)}, "up to 255 ahead of 0, to the same state": {arc(9, 255, 1), arc(0, 5, 1)},
		"the last two in another order": {arc('a', 'b', 0), arc('g', 'h', 1), arc('d', 'e', 0)},
		"touching, to the same state":   {arc('a', 'c', 1), arc('d', 'g', 1)}, "touching as single bytes": {arc('a', 'a', 0), arc('b', 'b', 0)}, "touching at 0": {arc(0, 0, 1), arc(1, 1, 1)}, "touching at 255": {arc(254, 254, 1), arc(255, 255, 1)}, "touching behind others": {arc('a', 'b', 0), arc('c', 'd', 1), arc('e', 'e', 1)},
	} {
		mustCheck(t, name, api.Machine{state(0, arcs...), state(1)}, api.ErrCode)
		mustCheck(t, name+" in the last state", api.Machine{state(1), state(0, arcs...)}, api.ErrCode)
		mustCheck(t, name+" in a state that accepts all sorts", api.Machine{state(1), state(math.MaxUint64, arcs...)}, api.ErrCode)
	}
}

func TestCheckOfStates(t *testing.T) {
	mustCheck(t, "nil", nil, api.OK)
	mustCheck(t, "no states", api.Machine{}, api.OK)
	mustCheck(t, "one state", api.Machine{{}}, api.OK)
	// What a state accepts may be anything.
	mustCheck(t, "states that accept all sorts", api.Machine{state(0), state(1), state(2), state(1 << 63), state(math.MaxUint64)}, api.OK)
	mustCheck(t, "an arc in no state", api.Machine{state(1, arc('a', 'a', 1))}, api.ErrCode)
	most := make(api.Machine, 4096)
	mustCheck(t, "MaxStates", most, api.OK)
	mustCheck(t, "one more", make(api.Machine, 4097), api.ErrCode)
	mustCheck(t, "many more", make(api.Machine, 70000), api.ErrCode)
	most[4095].Arcs = []api.Arc{arc('a', 'a', 4095)}
	mustCheck(t, "MaxStates, an arc to the last one", most, api.OK)
	most[4095].Arcs = []api.Arc{arc('a', 'a', 4096)}
	mustCheck(t, "MaxStates, an arc behind the last one", most, api.ErrCode)
	full := make([]api.Arc, 256)
	for b := range full {
		full[b] = arc(uint8(b), uint8(b), b%2)
	}
	mustCheck(t, "256 arcs", api.Machine{state(0, full...), state(1, full...)}, api.OK)
	mustCheck(t, "257 arcs", api.Machine{state(0, full...), state(1, append(full, arc(0, 0, 0))...)}, api.ErrCode)
}

// All machines of two states with one or two arcs whose ends are among some bytes.
func TestCheckOfAllPairsOfArcs(t *testing.T) {
	ends := []uint8{0, 1, 2, 3, 253, 254, 255}
	var all []api.Arc
	for _, lo := range ends {
		for _, hi := range ends {
			for to := -1; to <= 2; to++ {
				all = append(all, arc(lo, hi, to))
			}
		}
	}
	for _, first := range all {
		m := api.Machine{state(0, first), state(1)}
		mustCheck(t, "one arc", m, checkOf(m))
	}
	for i, first := range all {
		// Of those that are wrong in themselves some are enough.
		if (first.Lo > first.Hi || first.To < 0 || first.To > 1) && i%20 > 0 {
			continue
		}
		for _, second := range all {
			if second.To >= 0 && second.To <= 1 {
				m := api.Machine{state(0), state(1, first, second)}
				mustCheck(t, "two arcs", m, checkOf(m))
			}
		}
	}
}

func TestCheckOfDrawnMachines(t *testing.T) {
	s := drawn.Source(2)
	accepted := 0
	for range 20000 {
		m := s.OddMachine()
		want := checkOf(m)
		mustCheck(t, "a drawn machine", m, want)
		if want == api.OK {
			accepted++
		}
	}
	if accepted < 1000 || accepted > 19000 {
		t.Errorf("%d machines were accepted", accepted)
	}
	for range 300 {
		m := s.Machine(6)
		mustCheck(t, "a sound machine", m, api.OK)
		// An arc in two parts matches the same, but may not be.
		at, whole := s.Below(len(m)), arc('k', 'p', s.Below(len(m)))
		m[at].Arcs = []api.Arc{whole}
		mustCheck(t, "one arc", m, api.OK)
		m[at].Arcs = []api.Arc{arc('k', 'm', whole.To), arc('n', 'p', whole.To)}
		mustCheck(t, "an arc in two parts", m, api.ErrCode)
	}
}
