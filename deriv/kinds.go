package deriv

import (
	"slices"

	"homograph/api"
	"homograph/byteset"
	"homograph/regex"
)

// maxLevels is more than a valid pattern has: a derivative may be deeper, and has its normal form too.
const maxLevels = 1 << 16

// kinds are what makes a normal form of a node, by the node's kind.
type kinds map[int]func(api.Node) api.Node

// newKinds are the kinds for which a normal form and a derivative are made alike: by what is made of each Kid.
func newKinds() kinds {
	k := kinds{}
	k[api.OpAlt] = func(n api.Node) api.Node { return alt(k.each(n.Kids)...) }
	k[api.OpAnd] = func(n api.Node) api.Node { return and(k.each(n.Kids)...) }
	k[api.OpNot] = func(n api.Node) api.Node { return not(k.each(n.Kids)...) }
	return k
}

// normalizer makes a pattern's normal form.
func normalizer() kinds {
	k := newKinds()
	k[api.OpSet] = func(n api.Node) api.Node { return set(n.Set) }
	k[api.OpCat] = func(n api.Node) api.Node { return cat(k.each(n.Kids)...) }
	k[api.OpRep] = func(n api.Node) api.Node { return rep(cat(k.each(n.Kids)...), n.Min, n.Max) }
	return k
}

// deriver makes the normal form of a pattern's derivative by a byte; rest makes that of Kids, one behind the other, which stay as they are.
func deriver(b uint8, rest func([]api.Node) api.Node) kinds {
	k := newKinds()
	k[api.OpSet] = func(n api.Node) api.Node {
		if byteset.Has(n.Set, b) {
			return empty()
		}
		return nothing()
	}
	// All ways are Kids of one Alt, instead of each the Kid of an Alt in the one before it: the normal form is the same.
	k[api.OpCat] = func(n api.Node) api.Node {
		var ways []api.Node
		for i, kid := range n.Kids {
			ways = append(ways, joined(k.of(kid), rest, n.Kids[i+1:]))
			if !regex.Null(kid) {
				break
			}
		}
		return alt(ways...)
	}
	k[api.OpRep] = func(n api.Node) api.Node {
		if n.Max == 0 {
			return nothing()
		}
		more := func(kids []api.Node) api.Node { return rep(rest(kids), max(n.Min-1, 0), oneLess(n.Max)) }
		return joined(cat(k.each(n.Kids)...), more, n.Kids)
	}
	return k
}

// of is what is made of a node; one of no kind matches nothing.
func (k kinds) of(n api.Node) api.Node {
	form, ok := k[n.Op]
	if !ok {
		return nothing()
	}
	return form(n)
}

// each is what is made of each of several nodes.
func (k kinds) each(l []api.Node) []api.Node {
	var forms []api.Node
	for _, n := range l {
		forms = append(forms, k.of(n))
	}
	return forms
}

// joined is a normal form and, behind it, what rest makes of Kids.
// That isn't asked for in vain, and a long row of Kids isn't copied where nothing stands ahead of it.
func joined(first api.Node, rest func([]api.Node) api.Node, kids []api.Node) api.Node {
	switch {
	case Dead(first):
		return first
	case isEmpty(first):
		return rest(kids)
	}
	return cat(first, rest(kids))
}

// restOfNormal is the rest for a pattern that is a normal form: what stands in one needs no change, and no copy.
func restOfNormal(l []api.Node) api.Node { return list(api.OpCat, l) }

// oneLess is a Max, one lower if it is a limit.
func oneLess(most int) int {
	if most < 0 {
		return most
	}
	return most - 1
}

// finite is n; instead of one that is nested without end, as a node that holds itself is, it is nothing.
func finite(n api.Node) api.Node {
	if !nestedUpTo(n, maxLevels) {
		return nothing()
	}
	return n
}

func nestedUpTo(n api.Node, levels int) bool {
	deeper := func(kid api.Node) bool { return !nestedUpTo(kid, levels-1) }
	return levels > 0 && !slices.ContainsFunc(n.Kids, deeper)
}
