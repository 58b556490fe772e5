package deriv

import (
	"slices"
	"strings"

	"homograph/api"
	"homograph/byteset"
	"homograph/pattern"
	"homograph/regex"
)

// unlimited is the Max of a repetition without upper limit.
const unlimited = -1

func nothing() api.Node { return regex.Alt() }

func empty() api.Node { return regex.Cat() }

func everything() api.Node { return regex.Not(nothing()) }

func isEmpty(n api.Node) bool { return n.Op == api.OpCat && len(n.Kids) == 0 }

func isEverything(n api.Node) bool { return n.Op == api.OpNot && slices.ContainsFunc(n.Kids, Dead) }

// isStar tells whether a normal form is repeated without limits already.
func isStar(n api.Node) bool { return n.Op == api.OpRep && n.Min == 0 && n.Max == unlimited }

// set, cat, alt, and, not and rep are the normal forms of nodes of these kinds, whose Kids are normal forms already.
// What they make may share lists with these Kids, but they change none.

func set(s api.Set) api.Node {
	if s == (api.Set{}) {
		return nothing()
	}
	return regex.Set(s)
}

func cat(l ...api.Node) api.Node {
	kids := collect(api.OpCat, l...)
	if slices.ContainsFunc(kids, Dead) {
		return nothing()
	}
	return list(api.OpCat, kids)
}

func alt(l ...api.Node) api.Node {
	// The Kids of a single one are in their order already, and may be long to print.
	if len(l) == 1 {
		return l[0]
	}
	kids := melted(byteset.Union, collect(api.OpAlt, l...))
	if slices.ContainsFunc(kids, isEverything) {
		return everything()
	}
	return list(api.OpAlt, ordered(kids))
}

func and(l ...api.Node) api.Node {
	kids := slices.DeleteFunc(melted(byteset.Inter, collect(api.OpAnd, l...)), isEverything)
	if slices.ContainsFunc(kids, Dead) {
		return nothing()
	}
	if len(kids) == 0 {
		return everything()
	}
	return list(api.OpAnd, ordered(kids))
}

// not is the Not of its only Kid; the Cat of any other number is taken, so that nothing panics.
func not(l ...api.Node) api.Node {
	kid := cat(l...)
	if kid.Op == api.OpNot {
		return kid.Kids[0]
	}
	return api.Node{Op: api.OpNot, Kids: []api.Node{kid}}
}

func rep(kid api.Node, least, most int) api.Node {
	switch {
	case most == 0 || isEmpty(kid), Dead(kid) && least == 0:
		return empty()
	case Dead(kid), least == 1 && most == 1, least == 0 && most < 0 && isStar(kid):
		return kid
	}
	return api.Node{Op: api.OpRep, Min: least, Max: max(most, unlimited), Kids: []api.Node{kid}}
}

// list is a Cat, Alt or And of Kids; exactly one stands for itself.
func list(op int, kids []api.Node) api.Node {
	if len(kids) == 1 {
		return kids[0]
	}
	return api.Node{Op: op, Kids: kids}
}

// collect is the Kids for a list of a kind: of nodes of that kind their Kids, and the others themselves.
func collect(op int, l ...api.Node) []api.Node {
	var kids []api.Node
	for _, n := range l {
		if n.Op == op {
			kids = append(kids, n.Kids...)
		} else {
			kids = append(kids, n)
		}
	}
	return kids
}

// melted is Kids with one Set, which melt makes of all Sets, instead of these.
func melted(melt func(...api.Set) api.Set, kids []api.Node) []api.Node {
	var sets []api.Set
	var others []api.Node
	for _, n := range kids {
		if n.Op == api.OpSet {
			sets = append(sets, n.Set)
		} else {
			others = append(others, n)
		}
	}
	if len(sets) == 0 {
		return others
	}
	return append(others, set(melt(sets...)))
}

// ordered is Kids by their texts, each once: no two normal forms have the same text.
func ordered(kids []api.Node) []api.Node {
	if len(kids) < 2 {
		return kids
	}
	type shown struct {
		text string
		node api.Node
	}
	var l []shown
	for _, n := range kids {
		l = append(l, shown{pattern.Show(n), n})
	}
	slices.SortFunc(l, func(a, b shown) int { return strings.Compare(a.text, b.text) })
	var out []api.Node
	for i, s := range l {
		if i == 0 || s.text != l[i-1].text {
			out = append(out, s.node)
		}
	}
	return out
}
