package dfa_test

import (
	"slices"
	"testing"

	"homograph/api"
	"homograph/dfa"
	"homograph/drawn"
	"homograph/match"
	"homograph/pattern"
	"homograph/regex"
)

// Rule 1: every call returns, also of deep patterns and wide ones.

func TestDeepPatterns(t *testing.T) {
	a, ab := one("a"), regex.Lit("ab")
	for name, outer := range map[string]func(api.Node) api.Node{
		"Not":          regex.Not,
		"Cat":          func(n api.Node) api.Node { return regex.Cat(n) },
		"Cat of two":   func(n api.Node) api.Node { return regex.Cat(n, a) },
		"Alt":          func(n api.Node) api.Node { return regex.Alt(n, ab) },
		"And":          func(n api.Node) api.Node { return regex.And(n, regex.Rep(a, 0, -1)) },
		"*":            func(n api.Node) api.Node { return regex.Rep(n, 0, -1) },
		"+":            func(n api.Node) api.Node { return regex.Rep(n, 1, -1) },
		"?":            func(n api.Node) api.Node { return regex.Rep(n, 0, 1) },
		"* in a Not":   func(n api.Node) api.Node { return regex.Not(regex.Rep(n, 0, -1)) },
		"Not in a Cat": func(n api.Node) api.Node { return regex.Cat(a, regex.Not(n)) },
	} {
		n := a
		for regex.Check(outer(n)) == api.OK {
			n = outer(n)
		}
		want, ok := machineOf(n, 80)
		if !ok {
			t.Fatalf("%s is nested too deep", name)
		}
		mustMake(t, n, want)
		small := drawn.Nested(a, 3, outer)
		for _, s := range drawn.Texts("ab", 5) {
			mustBeWhole(t, made(t, small), s, match.Whole(small, s))
		}
		if t.Failed() {
			t.Fatalf("wrong with many times %s", name)
		}
	}
}

func TestManyKids(t *testing.T) {
	var names []api.Node
	for i := range 2000 {
		names = append(names, regex.Lit(string([]byte{byte(i), byte(i / 256), 'x', byte(i % 7)})))
	}
	m, e := dfa.Of(regex.Alt(names...), api.MaxStates)
	if e != api.OK || dfa.Check(m) != api.OK {
		t.Fatalf("Of: %d", e)
	}
	for i := range 2000 {
		for last := range 7 {
			s := string([]byte{byte(i), byte(i / 256), 'x', byte(last)})
			if dfa.Whole(m, s) != (last == i%7) || dfa.Whole(m, s[:3]) {
				t.Fatalf("%q is one of the names: %t", s, last == i%7)
			}
		}
	}
}

// Rule 3: arguments are neither modified nor retained, and results are in new memory.

func TestOfDoesNotModifyPatterns(t *testing.T) {
	invalid := regex.Cat(one("a"), regex.Rep(one("a"), 3, 2))
	for _, n := range append(patterns(t, 600), invalid, regex.Lit("abcdefgh")) {
		for _, limit := range []int{1, 3, 300} {
			arg, before := drawn.Roomy(n), drawn.Roomy(n)
			got, e := dfa.Of(arg, limit)
			if !drawn.Whole(arg, before) {
				t.Fatalf("Of modified %s", pattern.Show(n))
			}
			want := drawn.CopyMachine(got)
			drawn.Spoil(arg)
			if again, f := dfa.Of(n, limit); !drawn.SameMachines(got, want) || !drawn.SameMachines(again, want) || e != f {
				t.Fatalf("Of(%s) changed with its argument", pattern.Show(n))
			}
		}
	}
}

func TestMachinesAreNotModified(t *testing.T) {
	s := drawn.Source(5)
	for i := range 1000 {
		m := s.OddMachine()
		if i%2 == 0 {
			m = s.Machine(6)
		}
		arg, want := drawn.RoomyMachine(m), drawn.CopyMachine(drawn.WholeRoom(drawn.RoomyMachine(m)))
		e, next, text := dfa.Check(arg), dfa.Next(arg, 0, 'a'), s.Bytes(9)
		at, whole := dfa.Run(arg, text), dfa.Whole(arg, text)
		if !drawn.SameMachines(drawn.WholeRoom(arg), want) {
			t.Fatalf("a call modified %v", m)
		}
		// Another machine in the same memory must be walked as what it is.
		for j := range arg {
			arg[j] = state(1, arc(0, 255, j))
		}
		mustCheck(t, "another machine", arg, api.OK)
		mustRun(t, arg, text, min(len(m), 1)-1)
		mustBeWhole(t, arg, text, len(m) > 0)
		mustCheck(t, "the same machine again", m, e)
		mustNext(t, m, 0, 'a', next)
		mustRun(t, m, text, at)
		mustBeWhole(t, m, text, whole)
	}
}

func TestListsOfMachinesAreApart(t *testing.T) {
	for _, n := range append(patterns(t, 400), parse(t, "[ab]*a[ab]{4}"), regex.Lit("aaaaaaaa")) {
		m, e := dfa.Of(n, 300)
		if e != api.OK {
			continue
		}
		if drawn.SharesLists(m) {
			t.Fatalf("states of %s share memory", pattern.Show(n))
		}
	}
}

func TestNothingIsKeptFromCallToCall(t *testing.T) {
	for _, n := range patterns(t, 400) {
		m, e := dfa.Of(n, 300)
		want := drawn.CopyMachine(m)
		drawn.SpoilMachine(m)
		if again, f := dfa.Of(n, 300); e != f || !drawn.SameMachines(again, want) {
			t.Fatalf("Of(%s) changed with an earlier result", pattern.Show(n))
		}
	}
	to := table(-1, arc('a', 'c', 1), arc('d', 'f', 2), arc(255, 255, 0))
	first, second := dfa.Arcs(to), dfa.Arcs(to)
	drawn.SpoilArcs(first)
	if !slices.Equal(second, drawn.ArcsOf(to)) {
		t.Error("two lists of Arcs share memory")
	}
	mustArcs(t, "the same targets again", to, drawn.ArcsOf(to)...)
}
