package match_test

import (
	"slices"
	"testing"

	"homograph/api"
	"homograph/drawn"
	"homograph/pattern"
	"homograph/regex"
)

// table tells of a text, for each from and to, whether a pattern matches what stands between them.
type table [][]bool

func newTable(s string, holds func(from, to int) bool) table {
	t := make(table, len(s)+1)
	for from := range t {
		t[from] = make([]bool, len(s)+1)
		for to := from; to <= len(s); to++ {
			t[from][to] = holds(from, to)
		}
	}
	return t
}

// tableOf is the table of a pattern, by the words of chapter 2: that of each node from those of its Kids.
func tableOf(n api.Node, s string) table {
	var kids []table
	for _, kid := range n.Kids {
		kids = append(kids, tableOf(kid, s))
	}
	holdsIn := func(from, to int) func(table) bool {
		return func(t table) bool { return t[from][to] }
	}
	switch n.Op {
	case api.OpSet:
		return newTable(s, func(from, to int) bool {
			return to == from+1 && n.Set[s[from]/64]>>(s[from]%64)&1 == 1
		})
	case api.OpCat:
		return joined(s, kids)
	case api.OpAlt:
		return newTable(s, func(from, to int) bool { return slices.ContainsFunc(kids, holdsIn(from, to)) })
	case api.OpAnd:
		return newTable(s, func(from, to int) bool {
			holds := holdsIn(from, to)
			return !slices.ContainsFunc(kids, func(t table) bool { return !holds(t) })
		})
	case api.OpNot:
		return newTable(s, func(from, to int) bool { return !kids[0][from][to] })
	}
	return repeated(s, kids[0], n.Min, n.Max)
}

// joined is the table of tables, one behind the other.
func joined(s string, l []table) table {
	all := newTable(s, func(from, to int) bool { return from == to })
	for _, t := range l {
		before := all
		all = newTable(s, func(from, to int) bool {
			for at := from; at <= to; at++ {
				if before[from][at] && t[at][to] {
					return true
				}
			}
			return false
		})
	}
	return all
}

// repeated is the table of a table, so often.
func repeated(s string, t table, least, most int) table {
	if most < 0 {
		// More pieces than this are of no use: each beyond Min would be empty or take a byte.
		most = least + len(s)
	}
	power := joined(s, slices.Repeat([]table{t}, least))
	any := power
	for range most - least {
		power = joined(s, []table{power, t})
		before, here := any, power
		any = newTable(s, func(from, to int) bool { return before[from][to] || here[from][to] })
	}
	return any
}

// ends is what Ends should tell.
func (t table) ends(from int) []int {
	var l []int
	for to, holds := range t[from] {
		if holds {
			l = append(l, to)
		}
	}
	return l
}

// longest is what Longest should tell.
func (t table) longest(from int) (int, bool) {
	l := t.ends(from)
	if len(l) == 0 {
		return 0, false
	}
	return l[len(l)-1], true
}

// first is what First should tell.
func (t table) first(from int) (int, int, bool) {
	for at := range t {
		if to, ok := t.longest(at); ok && at >= from {
			return at, to, true
		}
	}
	return 0, 0, false
}

// cut is what Cut should tell of the text behind an offset.
func (t table) cut(s string, from int) []string {
	for at := from; at <= len(s); at++ {
		if to, _ := t.longest(at); to > at {
			return append([]string{s[from:at]}, t.cut(s, to)...)
		}
	}
	return []string{s[from:]}
}

// patterns are valid patterns of all shapes.
func patterns(t *testing.T) []api.Node {
	t.Helper()
	var l []api.Node
	for _, s := range drawn.PatternTexts() {
		l = append(l, parse(t, s))
	}
	l = append(l, regex.And(), regex.Alt(), regex.Cat(), regex.Rep(regex.Cat(), 32, 32), regex.Rep(one("ab"), 1, -32))
	s := drawn.Source(4)
	for range 1500 {
		l = append(l, s.Pattern(1+s.Below(5)))
	}
	return l
}

// texts are all texts of at most three of some bytes, and longer ones.
func texts() []string {
	l := drawn.Texts("abc", 3)
	s := drawn.Source(5)
	for range 12 {
		l = append(l, s.Text(8))
	}
	return append(l, "aaaaaaaa", "abababab", "aab", "abba")
}

// parse is the pattern that a text stands for.
func parse(t *testing.T, s string) api.Node {
	t.Helper()
	n, e, at := pattern.Parse(s)
	if e != api.OK {
		t.Fatalf("%q is no pattern: %d, %d", s, e, at)
	}
	return n
}
