package lexer_test

import (
	"slices"
	"testing"

	"homograph/api"
	"homograph/byteset"
	"homograph/deriv"
	"homograph/dfa"
	"homograph/drawn"
	"homograph/lexer"
	"homograph/match"
	"homograph/pattern"
	"homograph/regex"
)

func state(accept uint64, arcs ...api.Arc) api.State { return api.State{Accept: accept, Arcs: arcs} }

func arc(lo, hi uint8, to int) api.Arc { return api.Arc{Lo: lo, Hi: hi, To: to} }

// by is an arc by one byte.
func by(b uint8, to int) api.Arc { return arc(b, b, to) }

// ends are edges from a place on, each as its token and where it ends.
func ends(from int, l ...[2]int) []api.Edge {
	var edges []api.Edge
	for _, e := range l {
		edges = append(edges, api.Edge{Token: e[0], From: from, To: e[1]})
	}
	return edges
}

// parse is the patterns that texts stand for.
func parse(t *testing.T, texts ...string) []api.Node {
	t.Helper()
	var l []api.Node
	for _, s := range texts {
		n, e, at := pattern.Parse(s)
		if e != api.OK {
			t.Fatalf("%q is no pattern: %d, %d", s, e, at)
		}
		l = append(l, n)
	}
	return l
}

// shown is the texts of patterns.
func shown(l []api.Node) []string {
	var texts []string
	for _, n := range l {
		texts = append(texts, pattern.Show(n))
	}
	return texts
}

// built is the machine of patterns that have one.
func built(t *testing.T, l ...api.Node) api.Machine {
	t.Helper()
	m, e := lexer.Build(l, api.MaxStates)
	if e != api.OK {
		t.Fatalf("Build(%q): %d", shown(l), e)
	}
	return m
}

// jointOf is the machine that Build should make ahead of Least, with the states in the words of the chapter; it gives up behind so many states.
func jointOf(l []api.Node, most int) (api.Machine, bool) {
	var first []api.Node
	for _, n := range l {
		first = append(first, deriv.Norm(n))
	}
	if allDead(first) {
		return nil, true
	}
	least := leastAlike(l)
	var m api.Machine
	lists := [][]api.Node{first}
	for at := 0; at < len(lists); at++ {
		if len(lists) > most {
			return nil, false
		}
		var to [256]int
		for b := range to {
			if least[b] != b {
				to[b] = to[least[b]]
				continue
			}
			var next []api.Node
			for _, n := range lists[at] {
				next = append(next, deriv.Behind(n, uint8(b)))
			}
			if allDead(next) {
				to[b] = -1
				continue
			}
			to[b] = slices.IndexFunc(lists, func(l []api.Node) bool { return slices.EqualFunc(l, next, regex.Same) })
			if to[b] < 0 {
				to[b] = len(lists)
				lists = append(lists, next)
			}
		}
		m = append(m, state(wholes(lists[at], ""), drawn.ArcsOf(to)...))
	}
	return m, true
}

func allDead(l []api.Node) bool {
	return !slices.ContainsFunc(l, func(n api.Node) bool { return !deriv.Dead(n) })
}

// leastAlike is, for each byte, the least one that no set of patterns tells from it, so that the same is behind both.
func leastAlike(l []api.Node) [256]int {
	var least [256]int
	for _, block := range byteset.Cut(setsOf(l)) {
		first, _ := byteset.First(block, 0)
		for b := range least {
			if byteset.Has(block, uint8(b)) {
				least[b] = int(first)
			}
		}
	}
	return least
}

func setsOf(l []api.Node) []api.Set {
	var sets []api.Set
	for _, n := range l {
		sets = append(append(sets, n.Set), setsOf(n.Kids)...)
	}
	return sets
}

// wholes is bit k for each pattern k that matches a text.
func wholes(l []api.Node, s string) uint64 {
	var bits uint64
	for k, n := range l {
		if match.Whole(n, s) {
			bits |= 1 << k
		}
	}
	return bits
}

// resultOf is the result of a machine, which need not be sound, for a text.
func resultOf(m api.Machine, s string) uint64 {
	if at := dfa.Run(m, s); at >= 0 && at < len(m) {
		return m[at].Accept
	}
	return 0
}

// endsOf is what Ends should tell: the machine is run anew for each end, and each bit is looked at.
func endsOf(m api.Machine, s string, from int) []api.Edge {
	var l []api.Edge
	for to := range len(s) + 1 {
		for k := range 64 {
			if from >= 0 && from <= to && resultOf(m, s[from:to])>>k%2 == 1 {
				l = append(l, api.Edge{Token: k, From: from, To: to})
			}
		}
	}
	return l
}

// matchesOf is what Ends should tell of the machine of patterns: where they match.
func matchesOf(l []api.Node, s string, from int) []api.Edge {
	var edges []api.Edge
	for k, n := range l {
		for _, to := range match.Ends(n, s, from) {
			edges = append(edges, api.Edge{Token: k, From: from, To: to})
		}
	}
	slices.SortFunc(edges, func(a, b api.Edge) int {
		if a.To != b.To {
			return a.To - b.To
		}
		return a.Token - b.Token
	})
	return edges
}

// lists are lists of valid patterns of all sorts, first those of every pattern with some others and then drawn ones.
func lists(t *testing.T, drawnOnes int) [][]api.Node {
	t.Helper()
	l := [][]api.Node{
		nil, {}, parse(t, "[]"), parse(t, "[]", "[]", "a[]"), parse(t, ""), parse(t, "", "", ""), parse(t, "if", "[a-z]+", " *"), parse(t, "a", "a", "a"), parse(t, "~a", "a", "~~a", "~~~a"),
		parse(t, "[^]*", "~([^]*)", "[]"), parse(t, "\\x00", "\\xff", "[^]", "[\\x00\\xff]*"), parse(t, "a", "b", "[]", "c", "", "[]", "[ab]"), {regex.Alt(), regex.And(), regex.Cat(), regex.Not(regex.And())},
		{{Op: api.OpSet, Set: byteset.Of("a"), Min: 1, Max: 3}, {Op: api.OpSet, Set: byteset.Of("a")}, {Op: api.OpCat, Set: byteset.Of("a"), Max: -1}},
	}
	s := drawn.Source(100)
	texts := drawn.PatternTexts()
	for _, text := range texts {
		l = append(l, parse(t, text, texts[s.Below(len(texts))], texts[s.Below(len(texts))]))
	}
	for i := range drawnOnes {
		var list []api.Node
		for range s.Below([]int{3, 5, 9}[i%3]) {
			list = append(list, s.Pattern(1+s.Below(4)))
		}
		l = append(l, list)
	}
	return l
}

// builtLists are lists of patterns whose machines are of so many states at most ahead of Least, with these machines.
func builtLists(t *testing.T, drawnOnes, most int) ([][]api.Node, []api.Machine) {
	t.Helper()
	var kept [][]api.Node
	var machines []api.Machine
	for _, l := range lists(t, drawnOnes) {
		if m, e := lexer.Build(l, most); e == api.OK {
			kept, machines = append(kept, l), append(machines, m)
		}
	}
	if len(kept) < drawnOnes*3/4 {
		t.Fatalf("only %d lists have a machine", len(kept))
	}
	return kept, machines
}

// oddOrSound is a drawn machine: by turns one that dfa.Check may reject, and one that it accepts, with ends of all sorts.
func oddOrSound(s *drawn.Source, turn int) api.Machine {
	if turn%2 == 0 {
		return s.OddMachine()
	}
	m := s.Machine(6)
	for i := range m {
		m[i].Accept = []uint64{0, 1, 5, 1 << 31, 1 << 32, 1<<63 | 1, 3 << 30}[s.Below(7)]
	}
	return m
}
