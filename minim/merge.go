package minim

import (
	"slices"

	"homograph/api"
	"homograph/dfa"
)

// entry is how a state is come to: from a state, by the bytes of a stripe.
type entry struct{ from, stripe int }

// classesOf is the class of each state of a trimmed machine: states of one class end the same behind all texts.
func classesOf(m api.Machine) []int {
	p := newPartition(len(m))
	for _, group := range byAccept(m) {
		p.split(group)
	}
	stripes, count := stripesOf(m)
	refine(p, entries(m, stripes), count)
	return p.class
}

// byAccept is the states by what they end.
func byAccept(m api.Machine) [][]int {
	var groups [][]int
	numbers := map[uint64]int{}
	for state := range m {
		number, ok := numbers[m[state].Accept]
		if !ok {
			number = len(groups)
			numbers[m[state].Accept] = number
			groups = append(groups, nil)
		}
		groups[number] = append(groups[number], state)
	}
	return groups
}

// stripesOf is each byte's stripe, and how many there are. The bytes of a stripe are in the same arcs of all states, so that one of them stands for all.
func stripesOf(m api.Machine) ([byteCount]int, int) {
	var begins [byteCount + 1]bool
	for state := range m {
		for _, arc := range m[state].Arcs {
			begins[arc.Lo] = true
			begins[int(arc.Hi)+1] = true
		}
	}
	var stripes [byteCount]int
	count := 1
	for b := 1; b < byteCount; b++ {
		if begins[b] {
			count++
		}
		stripes[b] = count - 1
	}
	return stripes, count
}

// entries is how each state is come to.
func entries(m api.Machine, stripes [byteCount]int) [][]entry {
	into := make([][]entry, len(m))
	for state := range m {
		for _, arc := range m[state].Arcs {
			for stripe := stripes[arc.Lo]; stripe <= stripes[arc.Hi]; stripe++ {
				into[arc.To] = append(into[arc.To], entry{state, stripe})
			}
		}
	}
	return into
}

// refine splits classes until the states of each go on to the same classes by the same bytes.
//
// Each class, also one that comes up meanwhile, splits the others once, as what it is then. If it is parted behind that, it is enough to split by one of the parts, the new class: states that neither the whole nor that part keeps apart, the other part doesn't either. That they go nowhere by the same bytes needs no splitting, since it follows from where they go by all others.
func refine(p *partition, into [][]entry, stripes int) {
	from := make([][]int, stripes)
	for class := 0; class < len(p.spans); class++ {
		for i := range from {
			from[i] = from[i][:0]
		}
		for _, state := range p.members(class) {
			for _, e := range into[state] {
				from[e.stripe] = append(from[e.stripe], e.from)
			}
		}
		for _, states := range from {
			p.split(states)
		}
	}
}

// merged is a trimmed machine with one state for each class, in the order in which they are come to.
func merged(m api.Machine, classes []int) api.Machine {
	if len(m) == 0 {
		return nil
	}
	var firsts []int // the state by which each class is come to
	numbers := slices.Repeat([]int{nowhere}, len(m))
	numberOf := func(state int) int {
		number := &numbers[classes[state]]
		if *number == nowhere {
			*number = len(firsts)
			firsts = append(firsts, state)
		}
		return *number
	}
	numberOf(0)
	var out api.Machine
	for len(out) < len(firsts) {
		state := firsts[len(out)]
		to := targets(m, state)
		for b := range to {
			if to[b] != nowhere {
				to[b] = numberOf(to[b])
			}
		}
		out = append(out, api.State{Accept: m[state].Accept, Arcs: dfa.Arcs(to)})
	}
	return out
}
