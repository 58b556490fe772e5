package nfa

import (
	"slices"

	"homograph/api"
)

// fragment is the part of a machine that is built of a pattern: the state where it begins, and that where it ends.
type fragment struct{ start, end int }

// builder is the one machine in which all fragments are built.
type builder struct {
	made  Nfa
	kinds map[int]func(fragment, api.Node) // what is built between a new fragment's states, by the pattern's kind
}

func newBuilder() *builder {
	b := &builder{}
	set := func(f fragment, n api.Node) { b.arc(f.start, f.end, n.Set) }
	cat := func(f fragment, n api.Node) {
		here := f.start
		for _, kid := range n.Kids {
			here = b.buildBehind(here, kid)
		}
		b.eps(here, f.end)
	}
	alt := func(f fragment, n api.Node) {
		for _, kid := range n.Kids {
			b.eps(b.buildBehind(f.start, kid), f.end)
		}
	}
	rep := func(f fragment, n api.Node) {
		here := f.start
		for range n.Min {
			here = b.buildBehind(here, n.Kids[0])
		}
		if n.Max < 0 {
			b.buildLoop(here, n.Kids[0], f.end)
		}
		for times := n.Min; times < n.Max; times++ {
			b.eps(here, f.end)
			here = b.buildBehind(here, n.Kids[0])
		}
		b.eps(here, f.end)
	}
	b.kinds = map[int]func(fragment, api.Node){api.OpSet: set, api.OpCat: cat, api.OpAlt: alt, api.OpRep: rep}
	return b
}

// build makes a pattern's fragment; its states come ahead of those of the fragments inside it.
func (b *builder) build(n api.Node) fragment {
	f := fragment{b.made.Count, b.made.Count + 1}
	b.made.Count += statesOfOne
	b.kinds[n.Op](f, n)
	return f
}

// buildBehind makes a pattern's fragment behind a state, and is the state where it ends.
func (b *builder) buildBehind(here int, n api.Node) int {
	f := b.build(n)
	b.eps(here, f.start)
	return f.end
}

// buildLoop makes a pattern's fragment behind a state, and ways from its end to its start and to the end of all.
func (b *builder) buildLoop(here int, n api.Node, end int) {
	f := b.build(n)
	b.eps(here, f.start)
	b.eps(f.end, f.start)
	b.eps(f.end, end)
}

func (b *builder) eps(from, to int) { b.made.Eps = append(b.made.Eps, [2]int{from, to}) }

func (b *builder) arc(from, to int, s api.Set) { b.made.Arcs = append(b.made.Arcs, Arc{from, to, s}) }

// hasFragment tells whether a pattern has one: neither it nor what is inside it may be an And or a Not.
func hasFragment(n api.Node) bool {
	hasNone := func(kid api.Node) bool { return !hasFragment(kid) }
	return n.Op != api.OpAnd && n.Op != api.OpNot && !slices.ContainsFunc(n.Kids, hasNone)
}

// statesOfOne is how many states a fragment has, without those of the fragments inside it.
const statesOfOne = 2

// statesOf is how many states a pattern's fragment has, with those inside it; all numbers above MaxStates count as the next one.
// So none grows beyond what an int holds, however deep the repetitions that multiply it are nested.
func statesOf(n api.Node) int {
	states, copies := statesOfOne, copiesOf(n)
	for _, kid := range n.Kids {
		if states > api.MaxStates {
			break
		}
		states += copies * statesOf(kid)
	}
	return min(states, api.MaxStates+1)
}

// copiesOf is how many fragments are built of each Kid of a pattern.
func copiesOf(n api.Node) int {
	switch {
	case n.Op != api.OpRep:
		return 1
	case n.Max < 0:
		return n.Min + 1
	}
	return n.Max
}
