package lexer

import (
	"homograph/api"
	"homograph/dfa"
)

// nowhere is where a machine goes by a byte that no arc holds.
const nowhere = -1

// rests is what is left of each of several patterns behind a text. A normal form is told by its state in the pattern's own machine, counted from 1 on; 0 is one that is dead, which has no state.
type rests [api.MaxTokens]int

// builder is what is known of a machine whose states are rests.
type builder struct {
	parts  []api.Machine // of the patterns, each by itself
	lists  []rests       // of the states, in the order in which they came up
	states map[rests]int
}

// joined is the machine of several patterns, of so many states at most, which needn't be the least one yet.
func joined(l []api.Node, limit int) (api.Machine, api.Errno) {
	b := &builder{states: map[rests]int{}}
	for _, n := range l {
		// Each state of a part comes up in a list, and no two in the same one, so that where a part has too many states the whole has too.
		part, err := dfa.Of(n, limit)
		if err != api.OK {
			return nil, err
		}
		b.parts = append(b.parts, part)
	}
	b.stateOf(b.first())
	var m api.Machine
	for len(m) < len(b.lists) {
		if len(b.lists) > limit {
			return nil, api.ErrStates
		}
		m = append(m, b.build(b.lists[len(m)]))
	}
	return m, api.OK
}

// first is the list of the patterns themselves.
func (b *builder) first() rests {
	var list rests
	for k, part := range b.parts {
		list[k] = min(len(part), 1)
	}
	return list
}

// behind is the list of what a byte leaves of a list.
func (b *builder) behind(list rests, by uint8) rests {
	var left rests
	for k, part := range b.parts {
		// From what is dead, which is nowhere, the part goes nowhere.
		left[k] = dfa.Next(part, list[k]-1, by) + 1
	}
	return left
}

// stateOf is a list's state, a new one if it has none yet.
func (b *builder) stateOf(list rests) int {
	if list == (rests{}) {
		return nowhere
	}
	state, ok := b.states[list]
	if !ok {
		state = len(b.lists)
		b.states[list] = state
		b.lists = append(b.lists, list)
	}
	return state
}

// build is the state of a list, with its arcs.
func (b *builder) build(list rests) api.State {
	var built api.State
	for k, part := range b.parts {
		if list[k] > 0 && part[list[k]-1].Accept != 0 {
			built.Accept |= 1 << k
		}
	}
	var to [256]int
	for at := range to {
		to[at] = b.stateOf(b.behind(list, uint8(at)))
	}
	built.Arcs = dfa.Arcs(to)
	return built
}
