package nfa_test

import (
	"math"
	"slices"
	"testing"

	"homograph/api"
	"homograph/byteset"
	"homograph/drawn"
	"homograph/nfa"
	"homograph/pattern"
	"homograph/regex"
)

// P6.1

func mustBuild(t *testing.T, n api.Node, want nfa.Nfa) {
	t.Helper()
	if got, e := nfa.Build(n); e != api.OK || !same(got, want) {
		t.Errorf("Build(%s) = %v, %d, want %v", pattern.Show(n), got, e, want)
	}
}

func mustNotBuild(t *testing.T, name string, n api.Node, want api.Errno) {
	t.Helper()
	if got, e := nfa.Build(n); e != want || !same(got, nfa.Nfa{}) {
		t.Errorf("Build of %s = %v, %d, want %d", name, got, e, want)
	}
}

// arcs are Arcs of one byte each, from states to the next ones.
func arcs(bytes string, from ...int) []nfa.Arc {
	var l []nfa.Arc
	for i, state := range from {
		l = append(l, nfa.Arc{From: state, To: state + 1, Set: byteset.Of(bytes[i : i+1])})
	}
	return l
}

// machine is one that begins in 0 and ends in 1.
func machine(count int, l []nfa.Arc, eps ...[2]int) nfa.Nfa {
	return nfa.Nfa{Count: count, Eps: eps, Arcs: l, Start: 0, End: 1}
}

func TestFragmentOfASet(t *testing.T) {
	for _, s := range []api.Set{{}, byteset.Not(api.Set{}), byteset.Of("a"), byteset.Of("\x00\x7f\xff"), byteset.Range(60, 70)} {
		mustBuild(t, regex.Set(s), machine(2, []nfa.Arc{{From: 0, To: 1, Set: s}}))
	}
}

func TestFragmentOfACat(t *testing.T) {
	a, b, c := one("a"), one("b"), one("c")
	mustBuild(t, regex.Cat(), machine(2, nil, [2]int{0, 1}))
	mustBuild(t, regex.Cat(a), machine(4, arcs("a", 2), [2]int{0, 2}, [2]int{3, 1}))
	mustBuild(t, regex.Cat(a, b), machine(6, arcs("ab", 2, 4), [2]int{0, 2}, [2]int{3, 4}, [2]int{5, 1}))
	mustBuild(t, regex.Cat(a, b, c), machine(8, arcs("abc", 2, 4, 6), [2]int{0, 2}, [2]int{3, 4}, [2]int{5, 6}, [2]int{7, 1}))
	mustBuild(t, regex.Cat(regex.Cat(), a), machine(6, arcs("a", 4), [2]int{2, 3}, [2]int{0, 2}, [2]int{3, 4}, [2]int{5, 1}))
}

func TestFragmentOfAnAlt(t *testing.T) {
	a, b, c := one("a"), one("b"), one("c")
	mustBuild(t, regex.Alt(), machine(2, nil))
	mustBuild(t, regex.Alt(a), machine(4, arcs("a", 2), [2]int{0, 2}, [2]int{3, 1}))
	mustBuild(t, regex.Alt(a, b), machine(6, arcs("ab", 2, 4), [2]int{0, 2}, [2]int{3, 1}, [2]int{0, 4}, [2]int{5, 1}))
	mustBuild(t, regex.Alt(a, b, c), machine(8, arcs("abc", 2, 4, 6), [2]int{0, 2}, [2]int{3, 1}, [2]int{0, 4}, [2]int{5, 1}, [2]int{0, 6}, [2]int{7, 1}))
	// The same Kid twice has two fragments.
	mustBuild(t, regex.Alt(a, a), machine(6, arcs("aa", 2, 4), [2]int{0, 2}, [2]int{3, 1}, [2]int{0, 4}, [2]int{5, 1}))
}

func TestFragmentOfARepWithoutLimit(t *testing.T) {
	a := one("a")
	for _, most := range []int{-1, -7, math.MinInt} {
		mustBuild(t, regex.Rep(a, 0, most), machine(4, arcs("a", 2), [2]int{0, 2}, [2]int{3, 2}, [2]int{3, 1}, [2]int{0, 1}))
		mustBuild(t, regex.Rep(a, 1, most), machine(6, arcs("aa", 2, 4), [2]int{0, 2}, [2]int{3, 4}, [2]int{5, 4}, [2]int{5, 1}, [2]int{3, 1}))
		mustBuild(t, regex.Rep(a, 2, most), machine(8, arcs("aaa", 2, 4, 6), [2]int{0, 2}, [2]int{3, 4}, [2]int{5, 6}, [2]int{7, 6}, [2]int{7, 1}, [2]int{5, 1}))
	}
}

func TestFragmentOfARepWithLimit(t *testing.T) {
	a := one("a")
	mustBuild(t, regex.Rep(a, 0, 0), machine(2, nil, [2]int{0, 1}))
	mustBuild(t, regex.Rep(a, 1, 1), machine(4, arcs("a", 2), [2]int{0, 2}, [2]int{3, 1}))
	mustBuild(t, regex.Rep(a, 2, 2), machine(6, arcs("aa", 2, 4), [2]int{0, 2}, [2]int{3, 4}, [2]int{5, 1}))
	mustBuild(t, regex.Rep(a, 0, 1), machine(4, arcs("a", 2), [2]int{0, 1}, [2]int{0, 2}, [2]int{3, 1}))
	mustBuild(t, regex.Rep(a, 0, 2), machine(6, arcs("aa", 2, 4), [2]int{0, 1}, [2]int{0, 2}, [2]int{3, 1}, [2]int{3, 4}, [2]int{5, 1}))
	mustBuild(t, regex.Rep(a, 1, 2), machine(6, arcs("aa", 2, 4), [2]int{0, 2}, [2]int{3, 1}, [2]int{3, 4}, [2]int{5, 1}))
	mustBuild(t, regex.Rep(a, 1, 3), machine(8, arcs("aaa", 2, 4, 6), [2]int{0, 2}, [2]int{3, 1}, [2]int{3, 4}, [2]int{5, 1}, [2]int{5, 6}, [2]int{7, 1}))
	// What isn't built may be as large as it likes.
	mustBuild(t, regex.Rep(regex.Cat(many(a, 5000)...), 0, 0), machine(2, nil, [2]int{0, 1}))
}

// The ways inside a Kid come ahead of those to it and from it, and its states behind those of what it is in.
func TestFragmentsInFragments(t *testing.T) {
	mustBuild(t, parse(t, "(ab|c)*"), machine(12, arcs("abc", 6, 8, 10),
		[2]int{4, 6}, [2]int{7, 8}, [2]int{9, 5}, [2]int{2, 4}, [2]int{5, 3}, [2]int{2, 10}, [2]int{11, 3},
		[2]int{0, 2}, [2]int{3, 2}, [2]int{3, 1}, [2]int{0, 1}))
	mustBuild(t, parse(t, "a?b{1,2}"), machine(12, arcs("abb", 4, 8, 10),
		[2]int{2, 3}, [2]int{2, 4}, [2]int{5, 3}, [2]int{0, 2},
		[2]int{6, 8}, [2]int{9, 7}, [2]int{9, 10}, [2]int{11, 7}, [2]int{3, 6}, [2]int{7, 1}))
	mustBuild(t, parse(t, "(a|){2}"), machine(14, arcs("aa", 4, 10),
		[2]int{2, 4}, [2]int{5, 3}, [2]int{6, 7}, [2]int{2, 6}, [2]int{7, 3}, [2]int{0, 2},
		[2]int{8, 10}, [2]int{11, 9}, [2]int{12, 13}, [2]int{8, 12}, [2]int{13, 9}, [2]int{3, 8}, [2]int{9, 1}))
}

func TestFieldsOfOtherKindsHaveNoMeaning(t *testing.T) {
	a := one("a")
	full := byteset.Not(api.Set{})
	for _, n := range []api.Node{
		{Op: api.OpCat, Set: full, Min: 2, Max: 5, Kids: []api.Node{a}},
		{Op: api.OpCat, Set: full, Max: -1, Kids: []api.Node{a}},
		{Op: api.OpAlt, Set: full, Min: 3, Max: 3, Kids: []api.Node{a}},
		{Op: api.OpRep, Set: full, Min: 1, Max: 1, Kids: []api.Node{{Op: api.OpSet, Set: a.Set, Min: 4, Max: 9}}},
		{Op: api.OpRep, Set: full, Min: 1, Max: 1, Kids: []api.Node{{Op: api.OpSet, Set: a.Set, Min: 4, Max: -9}}},
	} {
		mustBuild(t, n, machine(4, arcs("a", 2), [2]int{0, 2}, [2]int{3, 1}))
	}
}

func TestFragmentsOfDrawnPatterns(t *testing.T) {
	for _, n := range patterns(t) {
		want := machineOf(n)
		if want.Count > api.MaxStates {
			t.Fatalf("%s is drawn too large", pattern.Show(n))
		}
		mustBuild(t, n, want)
		if t.Failed() {
			return
		}
	}
}

func TestAndAndNotHaveNoFragment(t *testing.T) {
	a := one("a")
	for name, n := range map[string]api.Node{
		"And": regex.And(a, a), "And of one": regex.And(a), "And of none": regex.And(), "Not": regex.Not(a), "Not of a Not": regex.Not(regex.Not(a)),
	} {
		mustNotBuild(t, name, n, api.ErrArg)
		for outer, inside := range map[string]api.Node{
			"a Cat": regex.Cat(n), "a Cat's last Kid": regex.Cat(a, regex.Cat(), n), "an Alt": regex.Alt(n, a), "an Alt behind one that matches all": regex.Alt(star(one("ab")), n),
			"a *": star(n), "a {2}": regex.Rep(n, 2, 2), "a {0}": regex.Rep(n, 0, 0), "a {0} in a {0}": regex.Rep(regex.Rep(n, 0, 0), 0, 0), "a dead Cat": regex.Cat(regex.Alt(), n),
			"depth": drawn.Nested(regex.Alt(a, n), 60, func(n api.Node) api.Node { return regex.Cat(n) }),
			// It is named before what is too large.
			"what is too large": regex.Cat(regex.Cat(many(a, 3000)...), n), "deep in what is too large": regex.Rep(regex.Rep(regex.Rep(regex.Cat(a, n), 32, 32), 32, 32), 32, 32),
		} {
			mustNotBuild(t, name+" in "+outer, inside, api.ErrArg)
		}
	}
}

func TestInvalidPatternsHaveNoFragment(t *testing.T) {
	a := one("a")
	self := api.Node{Op: api.OpCat, Kids: make([]api.Node, 2)}
	self.Kids[0], self.Kids[1] = self, self
	for name, n := range map[string]api.Node{
		"kind -1": {Op: -1}, "kind 6": {Op: 6}, "Set with a Kid": {Op: api.OpSet, Kids: []api.Node{a}}, "Rep without Kids": {Op: api.OpRep}, "Rep of two": {Op: api.OpRep, Kids: []api.Node{a, a}},
		"Not without Kids": {Op: api.OpNot}, "Min -1": regex.Rep(a, -1, -1), "Min 33": regex.Rep(a, 33, -1), "Max 33": regex.Rep(a, 0, 33), "{3,2}": regex.Rep(a, 3, 2), "{huge}": regex.Rep(a, math.MaxInt, math.MaxInt),
		"Cat with Max 33": {Op: api.OpCat, Max: 33}, "Set with Min above Max": {Op: api.OpSet, Min: 2, Max: 1}, "one deep inside": regex.Cat(a, regex.Alt(a, star(regex.Rep(a, 3, 2)))), "one in a {0}": regex.Rep(regex.Rep(a, 3, 2), 0, 0),
		"one with a Not": regex.Cat(regex.Not(a), regex.Rep(a, 3, 2)), "one in an And": regex.And(a, regex.Rep(a, 3, 2)), "one that is too large": regex.Cat(append(many(a, 5000), api.Node{Op: 9})...),
		"one that is too deep": drawn.Nested(a, api.MaxDepth, star), "one that holds itself": self,
	} {
		mustNotBuild(t, name, n, api.ErrArg)
	}
	mustBuild(t, drawn.Nested(a, api.MaxDepth-1, star), machineOf(drawn.Nested(a, api.MaxDepth-1, star)))
}

// many is a pattern so often.
func many(n api.Node, times int) []api.Node { return slices.Repeat([]api.Node{n}, times) }

func TestMaxStates(t *testing.T) {
	a, none := one("a"), regex.Cat()
	ofText := regex.Cat(many(a, 88)...) // 178 states, and 23 of them and 2 are 4096
	for name, c := range map[string]struct{ most, more api.Node }{
		"Cat":                 {regex.Cat(many(a, 2047)...), regex.Cat(many(a, 2048)...)},
		"Alt":                 {regex.Alt(many(a, 2047)...), regex.Alt(many(a, 2048)...)},
		"Cat of Cats":         {regex.Cat(many(none, 2047)...), regex.Cat(many(none, 2048)...)},
		"Alt in a Cat":        {regex.Cat(regex.Alt(many(a, 2000)...), regex.Cat(many(a, 44)...), a), regex.Cat(regex.Alt(many(a, 2000)...), regex.Cat(many(a, 44)...), a, a)},
		"{23}":                {regex.Rep(ofText, 23, 23), regex.Rep(ofText, 24, 24)},
		"{0,23}":              {regex.Rep(ofText, 0, 23), regex.Rep(ofText, 0, 24)},
		"{10,23}":             {regex.Rep(ofText, 10, 23), regex.Rep(ofText, 10, 24)},
		"{22,}":               {regex.Rep(ofText, 22, -1), regex.Rep(ofText, 23, -1)},
		"*":                   {star(regex.Cat(many(a, 2046)...)), star(regex.Cat(many(a, 2047)...))},
		"{0} beside 2046":     {regex.Cat(append(many(a, 2046), regex.Rep(ofText, 0, 0))...), regex.Cat(append(many(a, 2047), regex.Rep(ofText, 0, 0))...)},
		"{23} of a {0,1} ...": {regex.Rep(regex.Rep(regex.Cat(many(a, 87)...), 0, 1), 23, 23), regex.Rep(regex.Rep(regex.Cat(many(a, 87)...), 0, 2), 23, 23)},
		"the last Kid":        {regex.Cat(append(many(a, 2045), regex.Rep(a, 1, 1))...), regex.Cat(append(many(a, 2045), regex.Rep(a, 2, 2))...)},
	} {
		want := machineOf(c.most)
		if want.Count != api.MaxStates {
			t.Fatalf("%s has %d states", name, want.Count)
		}
		mustBuild(t, c.most, want)
		mustNotBuild(t, name+", one more", c.more, api.ErrStates)
	}
}

// Nested repetitions multiply beyond what any number of the machine holds; some of these products are 0 there.
func TestFarTooManyStates(t *testing.T) {
	for name, outer := range map[string]func(api.Node) api.Node{
		"{32}":    func(n api.Node) api.Node { return regex.Rep(n, 32, 32) },
		"{0,32}":  func(n api.Node) api.Node { return regex.Rep(n, 0, 32) },
		"{31,32}": func(n api.Node) api.Node { return regex.Rep(n, 31, 32) },
		"{31,}":   func(n api.Node) api.Node { return regex.Rep(n, 31, -1) },
		"{2,}":    func(n api.Node) api.Node { return regex.Rep(n, 2, -1) },
		"{2}":     func(n api.Node) api.Node { return regex.Rep(n, 2, 2) },
		"Cats":    func(n api.Node) api.Node { return regex.Rep(regex.Cat(n), 16, 16) },
	} {
		for levels := 12; regex.Check(drawn.Nested(one("a"), levels, outer)) == api.OK; levels++ {
			n := drawn.Nested(one("a"), levels, outer)
			mustNotBuild(t, name, n, api.ErrStates)
			if wider := regex.Alt(one("a"), n); regex.Check(wider) == api.OK {
				mustNotBuild(t, name+" in an Alt", wider, api.ErrStates)
			}
		}
	}
	mustNotBuild(t, "a very long text", regex.Cat(many(one("a"), api.MaxText)...), api.ErrStates)
	mustNotBuild(t, "a very wide Alt", regex.Alt(many(one("a"), api.MaxText)...), api.ErrStates)
}
