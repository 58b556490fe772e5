package drawn

import (
	"slices"

	"homograph/api"
	"homograph/regex"
)

// Roomy is a pattern in new memory, whose lists all have more room than they use, with nodes beyond their ends.
func Roomy(n api.Node) api.Node {
	kids := make([]api.Node, 0, len(n.Kids)+2)
	for _, kid := range n.Kids {
		kids = append(kids, Roomy(kid))
	}
	for i := range 2 {
		room := kids[:cap(kids)]
		room[len(kids)+i] = api.Node{Op: api.OpAlt, Min: 5, Max: i}
	}
	n.Kids = kids
	return n
}

// Whole tells whether two patterns are the same in all that their lists have, also beyond their ends.
func Whole(a, b api.Node) bool {
	if a.Op != b.Op || a.Set != b.Set || a.Min != b.Min || a.Max != b.Max || len(a.Kids) != len(b.Kids) {
		return false
	}
	return slices.EqualFunc(a.Kids[:cap(a.Kids)], b.Kids[:cap(b.Kids)], Whole)
}

// Spoil overwrites all of a pattern's lists, so that it is another pattern, and a valid one.
func Spoil(n api.Node) {
	for i, kid := range n.Kids {
		Spoil(kid)
		n.Kids[i] = regex.Not(regex.Cat())
	}
}

// Nested is a pattern inside so many others.
func Nested(n api.Node, levels int, outer func(api.Node) api.Node) api.Node {
	for range levels {
		n = outer(n)
	}
	return n
}
