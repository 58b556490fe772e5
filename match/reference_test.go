package match_test

import (
	"slices"
	"strings"
	"testing"

	"homograph/api"
	"homograph/pattern"
	"homograph/regex"
)

// table tells of a text, for each from and to, whether a pattern matches what stands between them.
type table [][]bool

func newTable(s string, holds func(from, to int) bool) table {
	t := make(table, len(s)+1)
	for from := range t {
		t[from] = make([]bool, len(s)+1)
		for to := from; to <= len(s); to++ {
			t[from][to] = holds(from, to)
		}
	}
	return t
}

// tableOf is the table of a pattern, by the words of chapter 2: that of each node from those of its Kids.
func tableOf(n api.Node, s string) table {
	var kids []table
	for _, kid := range n.Kids {
		kids = append(kids, tableOf(kid, s))
	}
	holdsIn := func(from, to int) func(table) bool {
		return func(t table) bool { return t[from][to] }
	}
	switch n.Op {
	case api.OpSet:
		return newTable(s, func(from, to int) bool {
			return to == from+1 && n.Set[s[from]/64]>>(s[from]%64)&1 == 1
		})
	case api.OpCat:
		return joined(s, kids)
	case api.OpAlt:
		return newTable(s, func(from, to int) bool { return slices.ContainsFunc(kids, holdsIn(from, to)) })
	case api.OpAnd:
		return newTable(s, func(from, to int) bool {
			holds := holdsIn(from, to)
			return !slices.ContainsFunc(kids, func(t table) bool { return !holds(t) })
		})
	case api.OpNot:
		return newTable(s, func(from, to int) bool { return !kids[0][from][to] })
	}
	return repeated(s, kids[0], n.Min, n.Max)
}

// joined is the table of tables, one behind the other.
func joined(s string, l []table) table {
	all := newTable(s, func(from, to int) bool { return from == to })
	for _, t := range l {
		before := all
		all = newTable(s, func(from, to int) bool {
			for at := from; at <= to; at++ {
				if before[from][at] && t[at][to] {
					return true
				}
			}
			return false
		})
	}
	return all
}

// repeated is the table of a table, so often.
func repeated(s string, t table, least, most int) table {
	if most < 0 {
		// More pieces than this are of no use: each beyond Min would be empty or take a byte.
		most = least + len(s)
	}
	power := joined(s, slices.Repeat([]table{t}, least))
	any := power
	for range most - least {
		power = joined(s, []table{power, t})
		before, here := any, power
		any = newTable(s, func(from, to int) bool { return before[from][to] || here[from][to] })
	}
	return any
}

// ends is what Ends should tell.
func (t table) ends(from int) []int {
	var l []int
	for to, holds := range t[from] {
		if holds {
			l = append(l, to)
		}
	}
	return l
}

// longest is what Longest should tell.
func (t table) longest(from int) (int, bool) {
	l := t.ends(from)
	if len(l) == 0 {
		return 0, false
	}
	return l[len(l)-1], true
}

// first is what First should tell.
func (t table) first(from int) (int, int, bool) {
	for at := range t {
		if to, ok := t.longest(at); ok && at >= from {
			return at, to, true
		}
	}
	return 0, 0, false
}

// cut is what Cut should tell of the text behind an offset.
func (t table) cut(s string, from int) []string {
	for at := from; at <= len(s); at++ {
		if to, _ := t.longest(at); to > at {
			return append([]string{s[from:at]}, t.cut(s, to)...)
		}
	}
	return []string{s[from:]}
}

// source makes numbers that are the same in each run.
type source uint64

func (s *source) below(n int) int {
	*s = *s*6364136223846793005 + 1442695040888963407
	return int(uint64(*s) >> 33 % uint64(n))
}

// pattern makes a valid pattern of at most so many levels.
func (s *source) pattern(levels int) api.Node {
	kinds := 3
	if levels > 1 {
		kinds = 9
	}
	kid := func() api.Node { return s.pattern(levels - 1) }
	kids := func() []api.Node {
		var l []api.Node
		for range s.below(4) {
			l = append(l, kid())
		}
		return l
	}
	switch s.below(kinds) {
	case 3:
		return regex.Alt(kids()...)
	case 4:
		return regex.And(kids()...)
	case 5:
		return regex.Not(kid())
	case 6:
		least := s.below(4)
		return regex.Rep(kid(), least, []int{-1, -7, least, least + 1, least + 3}[s.below(5)])
	case 7:
		return regex.Rep(kid(), s.below(2), -1)
	case 8:
		return regex.Cat(kids()...)
	}
	return one([]string{"", "a", "b", "ab", "c"}[s.below(5)])
}

// text makes a text of at most so many bytes.
func (s *source) text(most int) string {
	var out strings.Builder
	for range s.below(most + 1) {
		out.WriteByte("aaabbc"[s.below(6)])
	}
	return out.String()
}

// patternTexts are patterns of all kinds, the edges first.
func patternTexts() []string {
	return []string{
		"", "()", "[]", "[^]*", "[^]", ".", "a", "[ab]", "~a", "~~a", "~()", "~[]", "~[^]*", "~~~[^]",
		"ab", "a()b", "a|b", "a|", "|", "a|ab|abb", "a&a", "a&b", "[ab]*&~b", "[ab]&[bc]", "&", "(ab|a)(b|)",
		"a*", "a+", "a?", "a{0}", "a{1}", "a{2}", "a{2,}", "a{0,2}", "a{2,3}", "a{32}", "a{0,32}", "a{3,32}",
		"()*", "()+", "(){3}", "(){3,5}", "[]*", "[]+", "[]?", "[]{2,}", "([^]*)*", "([^]*){2}",
		"(a*)*", "(a+)+", "(a?)+", "(a?){2}", "(a?){3,}", "(a?){2,3}", "(a*){2}", "(a|){3,4}", "(a{2}){2}", "(a{2,3}){2,3}",
		"(a|aa)*", "(a|aa){2}", "(a|aa){2,3}", "(aa|aaa){2,}", "(ab|a|b){3}", "((a|bb){2}|b){2}", "((a|b){1,2}b){1,2}",
		"(~a)*", "(~a)+", "(~a){2}", "(~()){2}", "(~()){2,3}", "~(a*)", "~a*", "~(a*)b", "a~b", "~ab", "a~bc", "~a~b", "~(~ab)", "~(a~b)", "(a~b)*", "~((~a)*)", "~(~a{2})", "~(.*~(a.*))",
		"[ab]*&[bc]*", "(a|ab)&(ab|b)", "(a*&~())*", "(a*&~(aa))*", "a([ab]*&~(.*bb.*))", "(a&~b|b&~a)*", "~(a*)&~(b*)", "(a*&(aa)*)b", "(aa)*&(aaa)*",
		"(a*b?)*", "(a*b?){2,3}", "(ab?)*c", ".*b.*", ".*a", "a.*", ".*(ab|ba)", "(b|ab)*&.{2}",
	}
}

// patterns are valid patterns of all shapes.
func patterns(t *testing.T) []api.Node {
	t.Helper()
	var l []api.Node
	for _, s := range patternTexts() {
		l = append(l, parse(t, s))
	}
	l = append(l, regex.And(), regex.Alt(), regex.Cat(), regex.Rep(regex.Cat(), 32, 32), regex.Rep(one("ab"), 1, -32))
	s := source(4)
	for range 1500 {
		l = append(l, s.pattern(1+s.below(5)))
	}
	return l
}

// texts are all texts of at most three of some bytes, and longer ones.
func texts() []string {
	l := []string{""}
	for i := 0; i < len(l) && len(l[i]) < 3; i++ {
		for _, b := range "abc" {
			l = append(l, l[i]+string(b))
		}
	}
	s := source(5)
	for range 12 {
		l = append(l, s.text(8))
	}
	return append(l, "aaaaaaaa", "abababab", "aab", "abba")
}

// parse is the pattern that a text stands for.
func parse(t *testing.T, s string) api.Node {
	t.Helper()
	n, e, at := pattern.Parse(s)
	if e != api.OK {
		t.Fatalf("%q is no pattern: %d, %d", s, e, at)
	}
	return n
}
