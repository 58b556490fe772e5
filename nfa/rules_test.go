package nfa_test

import (
	"math"
	"slices"
	"strings"
	"testing"

	"homograph/api"
	"homograph/drawn"
	"homograph/nfa"
	"homograph/pattern"
	"homograph/regex"
)

// Rule 1: every call returns, also of deep patterns, long texts and machines that nobody built.

func TestDeepPatterns(t *testing.T) {
	a, ab := one("a"), regex.Lit("ab")
	for name, outer := range map[string]func(api.Node) api.Node{
		"Cat":    func(n api.Node) api.Node { return regex.Cat(n) },
		"Alt":    func(n api.Node) api.Node { return regex.Alt(n, ab) },
		"*":      star,
		"?":      func(n api.Node) api.Node { return regex.Rep(n, 0, 1) },
		"{1}":    func(n api.Node) api.Node { return regex.Rep(n, 1, 1) },
		"a Cat*": func(n api.Node) api.Node { return star(regex.Cat(n, a)) },
	} {
		n := a
		for regex.Check(outer(n)) == api.OK {
			n = outer(n)
		}
		mustBuild(t, n, machineOf(n))
		got, deepest := built(t, n), drawn.Nested(a, 3, outer)
		mustClose(t, got, []int{0}, closed(got, []int{0}))
		for _, s := range drawn.Texts("ab", 4) {
			here := closed(got, []int{0})
			for i := range len(s) {
				here = stepped(got, here, s[i])
			}
			mustBeWhole(t, n, s, slices.Contains(here, 1))
			mustBeWhole(t, deepest, s, nfa.Whole(machineOf(deepest), s))
		}
		if t.Failed() {
			t.Fatalf("wrong with many times %s", name)
		}
	}
}

func TestLongTexts(t *testing.T) {
	as, abs := strings.Repeat("a", api.MaxText), strings.Repeat("ab", api.MaxText/2)
	for _, c := range []struct {
		pattern, text string
		want          bool
	}{
		{"a*", as, true}, {"a*", as + "b", false}, {"a*", "b" + as, false}, {"(a*)*", as, true}, {"(ab)*", abs, true}, {"(ab)*", abs + "a", false}, {"(ab)*", abs[1:], false}, {"(a|b)*abb", abs, false}, {"(a|b)*abb", abs + "b", true},
		{"[ab]*a[ab]{15}", abs, true}, {"[ab]*a[ab]{15}", abs + "b", false}, {"(aa)*", as, true}, {"(aa)*", as[1:], false}, {"a{32}{32}", as, false}, {"a{32}{32}", as[:1024], true}, {"a{32}{32}", as[:1025], false},
		// As many states as may be, and nearly all of them at once.
		{"(a?){32}{31}*", as, true}, {"(a?){32}{31}", as[:992], true}, {"(a?){32}{31}", as[:993], false}, {"[ab]*a[ab]{32}{31}", abs, false}, {"[ab]*a[ab]{32}{31}", abs + "b", true}, {"[ab]*a[ab]{32}{31}", abs[:993] + "a", false},
	} {
		if got := nfa.Whole(built(t, parse(t, c.pattern)), c.text); got != c.want {
			t.Errorf("Whole(%s, %d bytes) = %t", c.pattern, len(c.text), got)
		}
	}
	long := regex.Lit(as[:2047])
	mustBeWhole(t, long, as[:2047], true)
	mustBeWhole(t, long, as[:2046], false)
	mustBeWhole(t, long, as[:2048], false)
}

// Texts whose steps hardly ever come again, so that what is remembered must be forgotten in between.
func TestTextsOfManyDifferentSteps(t *testing.T) {
	s := drawn.Source(10)
	var text []byte
	for range 3000 {
		text = append(text, "ab"[s.Below(2)])
	}
	a := built(t, parse(t, "[ab]*a[ab]{32}{31}"))
	for range 8 {
		// It matches where the byte that is so far from the end is an a.
		if got, want := nfa.Whole(a, string(text)), text[len(text)-993] == 'a'; got != want {
			t.Errorf("Whole of %d bytes = %t", len(text), got)
		}
		text = text[1+s.Below(5) : len(text)-1-s.Below(200)]
	}
}

// Two rows of states that are easily written alike: 1285 is 5 and 10 times 128.
func TestRowsOfStatesAreKeptApart(t *testing.T) {
	by := func(s string, from, to int) nfa.Arc { return nfa.Arc{From: from, To: to, Set: one(s).Set} }
	a := nfa.Nfa{Count: 1300, End: 1, Arcs: []nfa.Arc{by("x", 0, 5), by("x", 0, 10), by("y", 0, 1285), by("a", 5, 0), by("a", 10, 0), by("a", 1285, 1)}}
	for s, want := range map[string]bool{"xaya": true, "ya": true, "xa": false, "xaxa": false, "xayaa": false} {
		if got := nfa.Whole(a, s); got != want {
			t.Errorf("Whole of %q = %t", s, got)
		}
	}
}

// oddMachines are no machine of any pattern.
func oddMachines() []nfa.Nfa {
	all := api.Set{math.MaxUint64, math.MaxUint64, math.MaxUint64, math.MaxUint64}
	odd := []int{math.MinInt, -1, 0, 1, 63, 64, math.MaxInt}
	var eps [][2]int
	var ways []nfa.Arc
	for _, from := range odd {
		for _, to := range odd {
			eps = append(eps, [2]int{from, to})
			ways = append(ways, nfa.Arc{From: from, To: to, Set: all})
		}
	}
	l := []nfa.Nfa{{}}
	for _, n := range odd {
		for _, m := range odd {
			l = append(l, nfa.Nfa{Count: n, Start: m, End: m}, nfa.Nfa{Count: n, Eps: eps, Start: m, End: m}, nfa.Nfa{Count: n, Eps: eps, Arcs: ways, Start: m, End: 1})
		}
	}
	return l
}

func TestMachinesThatNobodyBuilt(t *testing.T) {
	for _, a := range oddMachines() {
		for _, l := range [][]int{nil, {0}, {1, -1, 0}, {math.MaxInt, math.MinInt, math.MaxInt - 1, 2}} {
			got := append(nfa.Close(a, l), nfa.Step(a, l, 'a')...)
			if slices.ContainsFunc(got, func(state int) bool { return state < 0 || state >= a.Count }) {
				t.Fatalf("%v has no state of %v", a, got)
			}
		}
		for _, s := range []string{"", "a", "ab\x00\xff"} {
			nfa.Whole(a, s)
		}
	}
	if nfa.Whole(nfa.Nfa{}, "") || nfa.Whole(nfa.Nfa{}, "a") {
		t.Error("a machine without states goes through a text")
	}
}

// Rule 3: arguments are neither modified nor retained, and results are in new memory.

// roomy is a machine whose lists have more room than they use, with ways beyond their ends.
func roomy(a nfa.Nfa) nfa.Nfa {
	eps := append(slices.Clone(a.Eps), [2]int{0, 1}, [2]int{1, 0})
	ways := append(slices.Clone(a.Arcs), nfa.Arc{From: 0, To: 1, Set: one("a").Set}, nfa.Arc{From: 1, To: 0, Set: one("b").Set})
	a.Eps, a.Arcs = eps[:len(a.Eps)], ways[:len(a.Arcs)]
	return a
}

// beyond is what stands behind the ends of a roomy machine's lists.
func beyond(a nfa.Nfa) nfa.Nfa {
	return nfa.Nfa{Eps: a.Eps[len(a.Eps) : len(a.Eps)+2], Arcs: a.Arcs[len(a.Arcs) : len(a.Arcs)+2]}
}

func TestBuildDoesNotModifyPatterns(t *testing.T) {
	for _, n := range append(patterns(t), regex.Not(one("a")), regex.Cat(many(one("a"), 3000)...), regex.Rep(one("a"), 3, 2)) {
		arg, before := drawn.Roomy(n), drawn.Roomy(n)
		got, e := nfa.Build(arg)
		if !drawn.Whole(arg, before) {
			t.Fatalf("Build modified %s", pattern.Show(n))
		}
		want := copied(got)
		drawn.Spoil(arg)
		if again, f := nfa.Build(n); !same(got, want) || !same(again, want) || e != f {
			t.Fatalf("Build of %s changed with its argument", pattern.Show(n))
		}
	}
}

func TestMachinesAndRowsAreNotModified(t *testing.T) {
	s := drawn.Source(11)
	for _, n := range patterns(t)[:600] {
		arg, want := roomy(built(t, n)), roomy(built(t, n))
		for _, l := range rows(arg, &s) {
			row := append(slices.Clone(l), 1, 0, 2)[:len(l)]
			nfa.Close(arg, row)
			nfa.Step(arg, row, 'a')
			if !slices.Equal(row, l) || !slices.Equal(row[:len(l)+3][len(l):], []int{1, 0, 2}) {
				t.Fatalf("a call modified the row %v", l)
			}
		}
		nfa.Whole(arg, "aab")
		if !same(arg, want) || !same(beyond(arg), beyond(want)) {
			t.Fatalf("a call modified the machine of %s", pattern.Show(n))
		}
	}
}

func TestNothingIsKeptFromCallToCall(t *testing.T) {
	s := drawn.Source(12)
	for _, n := range patterns(t)[:600] {
		a := built(t, n)
		want := copied(a)
		for _, l := range rows(a, &s) {
			row := slices.Clone(l)
			near, far := nfa.Close(a, row), nfa.Step(a, row, 'a')
			spoil(row)
			mustClose(t, a, l, near)
			mustStep(t, a, l, 'a', far)
			spoil(near)
			spoil(far)
			mustClose(t, a, l, closed(a, l))
			mustStep(t, a, l, 'a', stepped(a, l, 'a'))
		}
		goes := nfa.Whole(a, "aab")
		// Another machine in the same memory, which must be walked as what it is.
		for i := range a.Eps {
			a.Eps[i] = [2]int{1, 0}
		}
		for i := range a.Arcs {
			a.Arcs[i] = nfa.Arc{From: 1, To: 0, Set: one("a").Set}
		}
		mustClose(t, a, []int{0}, closed(a, []int{0}))
		mustStep(t, a, []int{1}, 'a', stepped(a, []int{1}, 'a'))
		if again := built(t, n); !same(again, want) || nfa.Whole(again, "aab") != goes || nfa.Whole(a, "aab") {
			t.Fatalf("a result of %s changed with an earlier one", pattern.Show(n))
		}
	}
}

func spoil(l []int) {
	for i := range l {
		l[i] = -1
	}
}
