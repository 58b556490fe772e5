package minim

import "homograph/api"

const byteCount = 256

// nowhere is where a machine goes by a byte that no arc holds.
const nowhere = -1

// targets is where a machine goes from a state, or from nowhere, by each byte.
func targets(m api.Machine, state int) [byteCount]int {
	var to [byteCount]int
	for b := range to {
		to[b] = nowhere
	}
	if state == nowhere {
		return to
	}
	for _, arc := range m[state].Arcs {
		for b := int(arc.Lo); b <= int(arc.Hi); b++ {
			to[b] = arc.To
		}
	}
	return to
}

// waysOnward is the states to which each state's arcs lead.
func waysOnward(m api.Machine) [][]int {
	ways := make([][]int, len(m))
	for state := range m {
		for _, arc := range m[state].Arcs {
			ways[state] = append(ways[state], arc.To)
		}
	}
	return ways
}

// turned is the same ways the other way round.
func turned(ways [][]int) [][]int {
	back := make([][]int, len(ways))
	for from, l := range ways {
		for _, to := range l {
			back[to] = append(back[to], from)
		}
	}
	return back
}

// accepting is the states that end something.
func accepting(m api.Machine) []int {
	var l []int
	for state := range m {
		if m[state].Accept != 0 {
			l = append(l, state)
		}
	}
	return l
}

// reached is which states are reached by ways from some states, which are reached too.
func reached(ways [][]int, from []int) []bool {
	seen := make([]bool, len(ways))
	var waiting []int
	reach := func(l []int) {
		for _, state := range l {
			if !seen[state] {
				seen[state] = true
				waiting = append(waiting, state)
			}
		}
	}
	reach(from)
	for len(waiting) > 0 {
		last := len(waiting) - 1
		state := waiting[last]
		waiting = waiting[:last]
		reach(ways[state])
	}
	return seen
}

// trimmed is a machine without the states that aren't useful, and without the arcs to them.
func trimmed(m api.Machine) api.Machine {
	useful := Useful(m)
	number := make([]int, len(useful))
	var kept api.Machine
	for state, ok := range useful {
		number[state] = nowhere
		if ok {
			number[state] = len(kept)
			kept = append(kept, m[state])
		}
	}
	for i := range kept {
		var arcs []api.Arc
		for _, arc := range kept[i].Arcs {
			arc.To = number[arc.To]
			if arc.To != nowhere {
				arcs = append(arcs, arc)
			}
		}
		kept[i].Arcs = arcs
	}
	return kept
}
