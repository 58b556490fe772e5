package deriv_test

import (
	"slices"
	"strings"
	"testing"

	"homograph/api"
	"homograph/deriv"
	"homograph/drawn"
	"homograph/match"
	"homograph/pattern"
	"homograph/regex"
)

// Rule 1: every call returns, also of deep patterns and long texts.

// outers put a pattern one level or two deeper.
func outers() map[string]func(api.Node) api.Node {
	a, ab := one("a"), regex.Lit("ab")
	return map[string]func(api.Node) api.Node{
		"Not":           regex.Not,
		"Cat":           func(n api.Node) api.Node { return regex.Cat(n) },
		"Cat of two":    func(n api.Node) api.Node { return regex.Cat(n, a) },
		"Cat behind a*": func(n api.Node) api.Node { return regex.Cat(regex.Rep(a, 0, -1), n) },
		"Alt":           func(n api.Node) api.Node { return regex.Alt(n, ab) },
		"And":           func(n api.Node) api.Node { return regex.And(n, regex.Rep(a, 0, -1)) },
		"*":             func(n api.Node) api.Node { return regex.Rep(n, 0, -1) },
		"+":             func(n api.Node) api.Node { return regex.Rep(n, 1, -1) },
		"?":             func(n api.Node) api.Node { return regex.Rep(n, 0, 1) },
		"{0,32}":        func(n api.Node) api.Node { return regex.Rep(n, 0, 32) },
		"{32}":          func(n api.Node) api.Node { return regex.Rep(n, 32, 32) },
		"{32,}":         func(n api.Node) api.Node { return regex.Rep(n, 32, -1) },
		"{2} of an Alt": func(n api.Node) api.Node { return regex.Rep(regex.Alt(n, ab), 2, 2) },
		"* of a Cat":    func(n api.Node) api.Node { return regex.Rep(regex.Cat(n, ab), 0, -1) },
		"* in a Not":    func(n api.Node) api.Node { return regex.Not(regex.Rep(n, 0, -1)) },
		"Not of a Cat":  func(n api.Node) api.Node { return regex.Not(regex.Cat(regex.Rep(a, 0, -1), n)) },
		"Not in a Cat":  func(n api.Node) api.Node { return regex.Cat(a, regex.Not(n)) },
	}
}

// deepest is a valid pattern with as many levels as may be.
func deepest(outer func(api.Node) api.Node) api.Node {
	n := one("a")
	for regex.Check(outer(n)) == api.OK {
		n = outer(n)
	}
	return n
}

func TestDeepPatterns(t *testing.T) {
	for _, outer := range outers() {
		n := deepest(outer)
		mustNorm(t, n, normalOf(n))
		small := drawn.Nested(one("a"), 4, outer)
		for _, b := range []byte("abz") {
			mustBehind(t, n, b, behindOf(n, b))
			mustBehind(t, small, b, behindOf(small, b))
		}
		for _, s := range []string{"", "a", "aa", "ab", "aab"} {
			if got := deriv.Whole(n, s); got != match.Whole(n, s) {
				t.Errorf("Whole(%s, %q) = %t", pattern.Show(n), s, got)
			}
		}
	}
}

// A derivative may be deeper than a pattern may be, and has its derivatives too.
func TestPatternsBeyondTheGreatestDepth(t *testing.T) {
	for _, name := range []string{"+", "{32,}", "Not of a Cat"} {
		n := deepest(outers()[name])
		behind := deriv.Behind(n, 'a')
		if regex.Check(behind) == api.OK {
			t.Errorf("what is behind the deepest %s isn't deeper", name)
		}
		mustNorm(t, behind, behind)
		mustBehind(t, behind, 'a', behindOf(behind, 'a'))
		mustAll(t, n, "aa", behindOf(behindOf(normalOf(n), 'a'), 'a'))
	}
	mustNorm(t, drawn.Nested(one("a"), 1001, regex.Not), regex.Not(one("a")))
	mustBehind(t, drawn.Nested(one("a"), 1001, regex.Not), 'a', regex.Not(empty))
	mustNorm(t, drawn.Nested(one("a"), 1000, outers()["Cat"]), one("a"))
}

func TestLongTexts(t *testing.T) {
	long := strings.Repeat("ab", api.MaxText/2)
	for s, want := range map[string]string{
		"(ab)*": "(ab)*", "[ab]*": "[ab]*", "(a|b)*abb": "[ab]*abb|b", "(ab|ba)*&~(.*bb.*)": "(ab|ba)*&~(.*bb.*|b.*)", "c": "[]", "~c": "~[]", "[^]*": "[^]*", ".*c|(ab)*": "(ab)*|.*c",
	} {
		mustAll(t, parse(t, s), long, form(t, want))
	}
	if !deriv.Whole(regex.Lit(long), long) || deriv.Whole(regex.Lit(long), long[1:]) || deriv.Whole(regex.Lit(long[1:]), long) {
		t.Error("Whole is wrong of long texts")
	}
	mustAll(t, regex.Lit(long), long[:len(long)-3], regex.Lit("bab"))
	mustBehind(t, regex.Lit(long), 'a', regex.Lit(long[1:]))
}

func TestManyKids(t *testing.T) {
	var alts, texts, optional []api.Node
	for i := range 4000 {
		s := string([]byte{'a' + byte(i%26), 'a' + byte(i/26%26), 'a' + byte(i/26/26)})
		alts = append(alts, regex.Lit(s))
		texts = append(texts, regex.Lit(s))
	}
	slices.SortFunc(texts, func(a, b api.Node) int { return strings.Compare(pattern.Show(a), pattern.Show(b)) })
	mustNorm(t, regex.Alt(alts...), regex.Alt(texts...))
	mustNorm(t, regex.And(alts...), regex.And(texts...))
	for range 300 {
		optional = append(optional, regex.Rep(one("a"), 0, 1))
	}
	got := deriv.Behind(regex.Cat(optional...), 'a')
	if got.Op != api.OpAlt || len(got.Kids) != 300 || len(got.Kids[299].Kids) != 299 {
		t.Errorf("%d ways", len(got.Kids))
	}
	if !deriv.Whole(regex.Cat(optional[:60]...), strings.Repeat("a", 60)) || deriv.Whole(regex.Cat(optional[:60]...), strings.Repeat("a", 61)) {
		t.Error("Whole is wrong of many Kids")
	}
}

// Of a pattern that isn't valid nothing is promised, but a call ends all the same.
func TestWhatIsNotValid(t *testing.T) {
	self := api.Node{Op: api.OpRep, Min: 1, Max: -1, Kids: make([]api.Node, 2)}
	self.Kids[0], self.Kids[1] = self, self
	a := one("a")
	for _, n := range []api.Node{
		{Op: -1}, {Op: 6, Kids: []api.Node{a}}, {Op: api.OpSet, Set: a.Set, Kids: []api.Node{a}},
		{Op: api.OpRep}, {Op: api.OpRep, Max: -1}, {Op: api.OpRep, Min: 3}, {Op: api.OpRep, Min: 1, Max: 2, Kids: []api.Node{a, a}}, {Op: api.OpNot}, {Op: api.OpNot, Kids: []api.Node{a, a}},
		{Op: api.OpNot, Kids: []api.Node{nothing, a}}, {Op: api.OpNot, Kids: []api.Node{a, nothing}}, {Op: api.OpNot, Kids: []api.Node{{Op: api.OpNot}}},
		regex.Rep(a, -1, -1), regex.Rep(a, 2, 1), regex.Rep(a, 1<<62, 1<<62), regex.Rep(regex.Cat(), 1<<62, 1<<62), regex.Rep(a, -1<<62, 1<<62),
		self, {Op: api.OpNot, Kids: self.Kids[:1]}, {Op: api.OpAlt, Kids: self.Kids}, regex.Cat(a, api.Node{Op: 9}), regex.Alt(a, api.Node{Op: 9}), regex.Not(api.Node{Op: 9}),
	} {
		deriv.Norm(n)
		deriv.Dead(n)
		for _, s := range []string{"", "a", "aaab"} {
			deriv.All(n, s)
			deriv.Whole(n, s)
			deriv.Behind(n, 'a')
		}
	}
}

// Rule 3: arguments are neither modified nor retained, and results are in new memory.

// results are what the calls answer of a pattern.
func results(n api.Node) []api.Node {
	return []api.Node{deriv.Norm(n), deriv.Behind(n, 'a'), deriv.Behind(n, 'b'), deriv.All(n, ""), deriv.All(n, "a"), deriv.All(n, "aab")}
}

func TestArgumentsAreNotModified(t *testing.T) {
	for _, n := range patterns(t) {
		arg, before := drawn.Roomy(n), drawn.Roomy(n)
		results(arg)
		deriv.Dead(arg)
		deriv.Whole(arg, "aab")
		if !drawn.Whole(arg, before) {
			t.Fatalf("a call modified %s", pattern.Show(n))
		}
	}
}

func TestNothingIsKeptFromCallToCall(t *testing.T) {
	for _, n := range patterns(t) {
		arg := drawn.Roomy(n)
		got, want := results(arg), results(n)
		drawn.Spoil(arg)
		if !slices.EqualFunc(got, want, regex.Same) {
			t.Fatalf("a result of %s changed with its argument", pattern.Show(n))
		}
		mustNorm(t, arg, normalOf(arg))
		mustBehind(t, arg, 'a', behindOf(arg, 'a'))
		for _, r := range got {
			drawn.Spoil(r)
		}
		if !slices.EqualFunc(results(n), want, regex.Same) {
			t.Fatalf("a result of %s changed with an earlier one", pattern.Show(n))
		}
	}
}

// apart tells whether no two lists of a pattern share memory, nor one with what has been seen before.
func apart(n api.Node, seen map[*api.Node]int) bool {
	all := n.Kids[:cap(n.Kids)]
	for i := range all {
		seen[&all[i]]++
		if seen[&all[i]] > 1 {
			return false
		}
	}
	return !slices.ContainsFunc(n.Kids, func(kid api.Node) bool { return !apart(kid, seen) })
}

func TestResultsAreInNewMemory(t *testing.T) {
	for _, n := range append(patterns(t), nothing, empty, everything) {
		seen := map[*api.Node]int{}
		if !apart(n, seen) {
			t.Fatalf("%s is drawn wrongly", pattern.Show(n))
		}
		for _, r := range append(results(n), results(n)...) {
			if !apart(r, seen) {
				t.Fatalf("a list of %s, a result of %s, shares memory", pattern.Show(r), pattern.Show(n))
			}
		}
	}
}
