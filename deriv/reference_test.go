package deriv_test

import (
	"slices"
	"strings"
	"testing"

	"homograph/api"
	"homograph/byteset"
	"homograph/drawn"
	"homograph/pattern"
	"homograph/regex"
)

// one is a Set of the bytes of a text.
func one(s string) api.Node { return regex.Set(byteset.Of(s)) }

// The three patterns that the chapter names.
var (
	nothing    = regex.Alt()
	empty      = regex.Cat()
	everything = regex.Not(nothing)
)

func same(n api.Node) func(api.Node) bool {
	return func(other api.Node) bool { return regex.Same(n, other) }
}

// normalOf is the normal form, by the words of the chapter.
func normalOf(n api.Node) api.Node {
	var kids []api.Node
	for _, kid := range n.Kids {
		kids = append(kids, normalOf(kid))
	}
	switch n.Op {
	case api.OpSet:
		if n.Set == (api.Set{}) {
			return nothing
		}
		return regex.Set(n.Set)
	case api.OpCat:
		return normalCat(spliced(api.OpCat, kids))
	case api.OpAlt:
		return normalAlt(spliced(api.OpAlt, kids))
	case api.OpAnd:
		return normalAnd(spliced(api.OpAnd, kids))
	case api.OpNot:
		if kids[0].Op == api.OpNot {
			return kids[0].Kids[0]
		}
		return regex.Not(kids[0])
	}
	return normalRep(kids[0], n.Min, n.Max)
}

func normalCat(kids []api.Node) api.Node {
	if slices.ContainsFunc(kids, same(nothing)) {
		return nothing
	}
	if len(kids) == 1 {
		return kids[0]
	}
	return regex.Cat(kids...)
}

func normalAlt(kids []api.Node) api.Node {
	sets, kids := taken(kids, func(n api.Node) bool { return n.Op == api.OpSet })
	if len(sets) > 0 {
		union := api.Set{}
		for _, n := range sets {
			union = byteset.Union(union, n.Set)
		}
		kids = append(kids, regex.Set(union))
	}
	kids = sortedOnce(kids)
	if slices.ContainsFunc(kids, same(everything)) {
		return everything
	}
	if len(kids) == 1 {
		return kids[0]
	}
	return regex.Alt(kids...)
}

func normalAnd(kids []api.Node) api.Node {
	_, kids = taken(kids, same(everything))
	sets, kids := taken(kids, func(n api.Node) bool { return n.Op == api.OpSet })
	if len(sets) > 0 {
		common := sets[0].Set
		for _, n := range sets {
			common = byteset.Inter(common, n.Set)
		}
		if common == (api.Set{}) {
			kids = append(kids, nothing)
		} else {
			kids = append(kids, regex.Set(common))
		}
	}
	kids = sortedOnce(kids)
	if slices.ContainsFunc(kids, same(nothing)) {
		return nothing
	}
	if len(kids) == 1 {
		return kids[0]
	}
	if len(kids) == 0 {
		return everything
	}
	return regex.And(kids...)
}

func normalRep(kid api.Node, least, most int) api.Node {
	if most == 0 || regex.Same(kid, empty) {
		return empty
	}
	if regex.Same(kid, nothing) {
		if least == 0 {
			return empty
		}
		return nothing
	}
	if least == 1 && most == 1 {
		return kid
	}
	if least == 0 && most < 0 && kid.Op == api.OpRep && kid.Min == 0 && kid.Max == -1 {
		return kid
	}
	if most < 0 {
		most = -1
	}
	return regex.Rep(kid, least, most)
}

// spliced is Kids with the Kids of those of a kind in their places.
func spliced(op int, kids []api.Node) []api.Node {
	for i := len(kids) - 1; i >= 0; i-- {
		if kids[i].Op == op {
			kids = slices.Concat(kids[:i], kids[i].Kids, kids[i+1:])
		}
	}
	return kids
}

// taken is the Kids for which is holds, and the others.
func taken(kids []api.Node, is func(api.Node) bool) (those, others []api.Node) {
	for _, kid := range kids {
		if is(kid) {
			those = append(those, kid)
		} else {
			others = append(others, kid)
		}
	}
	return those, others
}

// sortedOnce puts one Kid after the other in front of the first one with a greater text, unless it is there already.
func sortedOnce(kids []api.Node) []api.Node {
	var out []api.Node
	for _, kid := range kids {
		if slices.ContainsFunc(out, same(kid)) {
			continue
		}
		at := 0
		for at < len(out) && pattern.Show(out[at]) < pattern.Show(kid) {
			at++
		}
		out = slices.Insert(out, at, kid)
	}
	return out
}

// derivativeOf is the derivative by the words of the chapter, not a normal form.
func derivativeOf(n api.Node, b uint8) api.Node {
	kids := func() []api.Node {
		var l []api.Node
		for _, kid := range n.Kids {
			l = append(l, derivativeOf(kid, b))
		}
		return l
	}
	switch n.Op {
	case api.OpSet:
		if n.Set[b/64]>>(b%64)&1 == 1 {
			return empty
		}
		return nothing
	case api.OpAlt:
		return regex.Alt(kids()...)
	case api.OpAnd:
		return regex.And(kids()...)
	case api.OpNot:
		return regex.Not(kids()[0])
	case api.OpCat:
		if len(n.Kids) == 0 {
			return nothing
		}
		first := regex.Cat(append([]api.Node{derivativeOf(n.Kids[0], b)}, n.Kids[1:]...)...)
		if !regex.Null(n.Kids[0]) {
			return first
		}
		return regex.Alt(first, derivativeOf(regex.Cat(n.Kids[1:]...), b))
	}
	if n.Max == 0 {
		return nothing
	}
	least, most := n.Min, n.Max
	if least != 0 {
		least--
	}
	if most >= 0 {
		most--
	}
	return regex.Cat(kids()[0], regex.Rep(n.Kids[0], least, most))
}

func behindOf(n api.Node, b uint8) api.Node { return normalOf(derivativeOf(n, b)) }

// patterns are valid patterns of all shapes.
func patterns(t *testing.T) []api.Node {
	t.Helper()
	l := []api.Node{
		regex.Cat(), regex.Alt(), regex.And(), regex.Not(regex.Alt()), regex.Not(regex.And()), regex.Not(regex.Cat()),
		regex.Cat(regex.Alt()), regex.Alt(regex.Cat()), regex.And(regex.Alt()), regex.Alt(regex.And()),
		regex.Rep(regex.Alt(), 0, -9), regex.Rep(regex.And(), 0, -1), regex.Rep(one("a"), 2, -9), regex.Rep(regex.Rep(one("a"), 0, -3), 0, -4),
	}
	for _, s := range drawn.PatternTexts() {
		l = append(l, parse(t, s))
	}
	s := drawn.Source(6)
	for range 1500 {
		l = append(l, s.Pattern(2+s.Below(3)))
	}
	return l
}

func parse(t *testing.T, s string) api.Node {
	t.Helper()
	n, err, at := pattern.Parse(s)
	if err != api.OK {
		t.Fatalf("%q is no pattern: %v at %d", s, err, at)
	}
	return n
}

// form is the normal form that has a text; that of nothing, and no other, isn't what the text stands for.
func form(t *testing.T, s string) api.Node {
	t.Helper()
	return withNothing(parse(t, s))
}

func withNothing(n api.Node) api.Node {
	if n.Op == api.OpSet && n.Set == (api.Set{}) {
		return nothing
	}
	for i, kid := range n.Kids {
		n.Kids[i] = withNothing(kid)
	}
	return n
}

// differing is two long texts of patterns that differ in their last bytes only.
func differing(first, second string) (string, string) {
	begin := strings.Repeat("ab?", 300)
	return begin + first, begin + second
}
