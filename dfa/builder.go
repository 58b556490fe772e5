package dfa

import (
	"strconv"

	"homograph/api"
	"homograph/byteset"
	"homograph/deriv"
	"homograph/regex"
)

// builder is what is known of a machine whose states are normal forms.
type builder struct {
	forms  []api.Node     // of the states, in the order in which they came up
	states map[string]int // by the keys of their normal forms
	sets   map[api.Set]int
	key    []byte
}

func newBuilder() *builder {
	return &builder{states: map[string]int{}, sets: map[api.Set]int{}}
}

// stateOf is a normal form's state, a new one if it has none yet.
func (b *builder) stateOf(form api.Node) int {
	if deriv.Dead(form) {
		return nowhere
	}
	b.key = b.key[:0]
	b.appendKey(form)
	state, ok := b.states[string(b.key)]
	if !ok {
		state = len(b.forms)
		b.states[string(b.key)] = state
		b.forms = append(b.forms, form)
	}
	return state
}

// build is a state with its arcs. Its normal form, which may be large, isn't needed behind it, and isn't kept.
func (b *builder) build(state int) api.State {
	form := b.forms[state]
	b.forms[state] = api.Node{}
	built := api.State{Arcs: Arcs(b.targets(form))}
	if regex.Null(form) {
		built.Accept = 1
	}
	return built
}

// targets is where a normal form leads by each byte.
// The blocks rise by their least bytes, so that new states come up in the same order as byte by byte.
func (b *builder) targets(form api.Node) [byteCount]int {
	var to [byteCount]int
	for _, block := range byteset.Cut(asked(form)) {
		least, _ := byteset.First(block, 0)
		target := b.stateOf(deriv.Behind(form, least))
		for _, r := range byteset.Ranges(block) {
			for at := int(r[0]); at <= int(r[1]); at++ {
				to[at] = target
			}
		}
	}
	return to
}

// asked is the sets that decide what is behind a byte: two bytes of which each of these sets has both or neither lead to the same.
func asked(n api.Node) []api.Set {
	if n.Op == api.OpSet {
		return []api.Set{n.Set}
	}
	var l []api.Set
	for _, kid := range n.Kids {
		l = append(l, asked(kid)...)
		if n.Op == api.OpCat && !regex.Null(kid) {
			break
		}
	}
	return l
}

// appendKey writes a normal form in such a way that no two different ones are written alike.
func (b *builder) appendKey(n api.Node) {
	b.appendNumbers(n.Op)
	switch n.Op {
	case api.OpSet:
		b.appendNumbers(b.setNumber(n.Set))
		return
	case api.OpRep:
		b.appendNumbers(n.Min, n.Max)
	}
	b.appendNumbers(len(n.Kids))
	for _, kid := range n.Kids {
		b.appendKey(kid)
	}
}

func (b *builder) appendNumbers(l ...int) {
	for _, n := range l {
		b.key = append(strconv.AppendInt(b.key, int64(n), 10), ' ')
	}
}

// setNumber stands for a set, which would be long to write each time.
func (b *builder) setNumber(s api.Set) int {
	n, ok := b.sets[s]
	if !ok {
		n = len(b.sets)
		b.sets[s] = n
	}
	return n
}
