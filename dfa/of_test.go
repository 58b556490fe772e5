package dfa_test

import (
	"math"
	"slices"
	"strings"
	"testing"

	"homograph/api"
	"homograph/deriv"
	"homograph/dfa"
	"homograph/drawn"
	"homograph/match"
	"homograph/nfa"
	"homograph/pattern"
	"homograph/regex"
)

// P7.3

// mustMake holds that a pattern has a machine, whatever the limit, and none with a lower limit than its states.
func mustMake(t *testing.T, n api.Node, want api.Machine) {
	t.Helper()
	for _, limit := range []int{max(1, len(want)), api.MaxStates} {
		if got, e := dfa.Of(n, limit); e != api.OK || !drawn.SameMachines(got, want) {
			t.Errorf("Of(%s, %d) = %v, %d, want %v", pattern.Show(n), limit, got, e, want)
		}
	}
	if len(want) > 1 {
		mustNotMake(t, pattern.Show(n), n, len(want)-1, api.ErrStates)
		mustNotMake(t, pattern.Show(n), n, 1, api.ErrStates)
	}
}

func mustNotMake(t *testing.T, name string, n api.Node, limit int, want api.Errno) {
	t.Helper()
	if got, e := dfa.Of(n, limit); e != want || len(got) != 0 {
		t.Errorf("Of %s with %d has %d states and tells %d, want %d", name, limit, len(got), e, want)
	}
}

func TestMachines(t *testing.T) {
	for s, want := range map[string]api.Machine{
		"": {state(1)}, "[]*": {state(1)}, "(){3}": {state(1)}, "a{0}": {state(1)}, "&": {state(1)},
		"a":       {state(0, arc('a', 'a', 1)), state(1)},
		"[^]":     {state(0, arc(0, 255, 1)), state(1)},
		"[^a]":    {state(0, arc(0, '`', 1), arc('b', 255, 1)), state(1)},
		"\\x00":   {state(0, arc(0, 0, 1)), state(1)},
		"\\xff":   {state(0, arc(255, 255, 1)), state(1)},
		"[acd]":   {state(0, arc('a', 'a', 1), arc('c', 'd', 1)), state(1)},
		"a*":      {state(1, arc('a', 'a', 0))},
		"a+":      {state(0, arc('a', 'a', 1)), state(1, arc('a', 'a', 1))},
		"a?":      {state(1, arc('a', 'a', 1)), state(1)},
		"a{2,3}":  {state(0, arc('a', 'a', 1)), state(0, arc('a', 'a', 2)), state(1, arc('a', 'a', 3)), state(1)},
		"(ab)*":   {state(1, arc('a', 'a', 1)), state(0, arc('b', 'b', 0))},
		"ab|ac":   {state(0, arc('a', 'a', 1)), state(0, arc('b', 'c', 2)), state(1)},
		"a*b":     {state(0, arc('a', 'a', 0), arc('b', 'b', 1)), state(1)},
		"(a|b)*b": {state(0, arc('a', 'a', 0), arc('b', 'b', 1)), state(1, arc('a', 'a', 0), arc('b', 'b', 1))},
		"a*&~()":  {state(0, arc('a', 'a', 1)), state(1, arc('a', 'a', 1))},
		"[ab]&b":  {state(0, arc('b', 'b', 1)), state(1)},
		"~a":      {state(1, arc(0, '`', 1), arc('a', 'a', 2), arc('b', 255, 1)), state(1, arc(0, 255, 1)), state(0, arc(0, 255, 1))},
		"~()":     {state(0, arc(0, 255, 1)), state(1, arc(0, 255, 1))},
		"~(a*)":   {state(0, arc(0, '`', 1), arc('a', 'a', 0), arc('b', 255, 1)), state(1, arc(0, 255, 1))},
		// States that match the same stay apart if their normal forms differ: a* and |a* here.
		"aa*|b(a*|)": {state(0, arc('a', 'a', 1), arc('b', 'b', 2)), state(1, arc('a', 'a', 1)), state(1, arc('a', 'a', 1))},
	} {
		mustMake(t, parse(t, s), want)
	}
}

// A normal form may be Dead, and then there are no states; or it matches nothing all the same, and then there are some that don't accept.
func TestMachinesOfWhatMatchesNothing(t *testing.T) {
	for _, s := range []string{"[]", "a[]b", "a&b", "[]+", "[]{2,}", "~~[]", "[]|[]", "(a&b)+c", "a[]*[]"} {
		mustMake(t, parse(t, s), nil)
	}
	mustMake(t, regex.Alt(), nil)
	mustMake(t, regex.Not(regex.And()), nil)
	mustMake(t, parse(t, "ab&ac"), api.Machine{state(0)})
	mustMake(t, parse(t, "xab&xac"), api.Machine{state(0, arc('x', 'x', 1)), state(0)})
	mustMake(t, parse(t, "a&~([^]*)"), api.Machine{state(0, arc('a', 'a', 1)), state(0)})
	mustMake(t, parse(t, "~([^]*)"), api.Machine{state(0, arc(0, 255, 0))})
	// The state that leads nowhere is no state of the one ahead of it either.
	mustMake(t, parse(t, "x(ab&ac)|y"), api.Machine{state(0, arc('x', 'x', 1), arc('y', 'y', 2)), state(0), state(1)})
}

func TestMachinesOfWhatMatchesAll(t *testing.T) {
	all := api.Machine{state(1, arc(0, 255, 0))}
	for _, s := range []string{"~[]", "[^]*", "~~([^]*)", "a|~[]", "~(a[])", "([^]*)*", "~[]&~[]", "~(a&b)"} {
		mustMake(t, parse(t, s), all)
	}
	mustMake(t, regex.And(), all)
	mustMake(t, regex.Not(regex.Alt()), all)
}

// Which byte leads to a state first gives it its number, and not which Kid.
func TestOrderOfStates(t *testing.T) {
	for s, want := range map[string]api.Machine{
		"bx|ay":                 {state(0, arc('a', 'a', 1), arc('b', 'b', 2)), state(0, arc('y', 'y', 3)), state(0, arc('x', 'x', 3)), state(1)},
		"[ac]x|by":              {state(0, arc('a', 'a', 1), arc('b', 'b', 2), arc('c', 'c', 1)), state(0, arc('x', 'x', 3)), state(0, arc('y', 'y', 3)), state(1)},
		"[bd]x|[ac]y":           {state(0, arc('a', 'a', 1), arc('b', 'b', 2), arc('c', 'c', 1), arc('d', 'd', 2)), state(0, arc('y', 'y', 3)), state(0, arc('x', 'x', 3)), state(1)},
		"\\xff\\x00|\\x00\\xff": {state(0, arc(0, 0, 1), arc(255, 255, 2)), state(0, arc(255, 255, 3)), state(0, arc(0, 0, 3)), state(1)},
		"[^b]c|bd":              {state(0, arc(0, 'a', 1), arc('b', 'b', 2), arc('c', 255, 1)), state(0, arc('c', 'c', 3)), state(0, arc('d', 'd', 3)), state(1)},
		// All that comes up from a state comes ahead of what comes up from the next one.
		"azx|b|c": {state(0, arc('a', 'a', 1), arc('b', 'c', 2)), state(0, arc('z', 'z', 3)), state(1), state(0, arc('x', 'x', 2))},
		"a(dx|cy)|be": {state(0, arc('a', 'a', 1), arc('b', 'b', 2)), state(0, arc('c', 'c', 3), arc('d', 'd', 4)), state(0, arc('e', 'e', 5)),
			state(0, arc('y', 'y', 5)), state(0, arc('x', 'x', 5)), state(1)},
		"abc|b": {state(0, arc('a', 'a', 1), arc('b', 'b', 2)), state(0, arc('b', 'b', 3)), state(1), state(0, arc('c', 'c', 2))},
	} {
		mustMake(t, parse(t, s), want)
	}
}

// Each byte of a set may lead to another state.
func TestEachByteToAnotherState(t *testing.T) {
	var ways []api.Node
	want := make(api.Machine, 258)
	for b := range 256 {
		ways = append(ways, regex.Lit(string([]byte{255 - byte(b), byte(b)})))
		want[0].Arcs = append(want[0].Arcs, arc(uint8(b), uint8(b), b+1))
		want[b+1] = state(0, arc(uint8(255-b), uint8(255-b), 257))
	}
	want[257] = state(1)
	mustMake(t, regex.Alt(ways...), want)
}

// Patterns whose states are easily held to be the same: they differ in one number, one byte, or in what is inside what.
func TestStatesThatNearlyAgree(t *testing.T) {
	for s, states := range map[string]int{
		"a(b{2,3})|b(b{2,4})|c(b{2,})|d(b{3})|e(b{1,3})": 14, "ab*|bb+|cb?|db": 6, "a([^]*)|b(~[])|c(.*)": 4, "a[bc]|b[bd]|c[bcd]": 5, "a(~(bc))|b(~bc)": 9,
		"a(b|cd)e|b(b|cde)|c(bcde)": 8, "a((bc)*d)|b(bc*d)|c(b(cd)*)": 9, "a(bc|de)|b(bc&de)|c(~(bc)&de)": 7, "a(b{12}{3})|b(b{1}{23})|c(b{1,2}{3})": 55, "a(bb)*|b(bbb)*|c(b{2}|b{3})*": 12,
		// The same nodes, in the same order, at other depths.
		"ab(cd|ef)g|bb(cd|efg)": 10,
	} {
		n := parse(t, s)
		want, ok := machineOf(n, 200)
		if !ok || len(want) != states {
			t.Errorf("%s has %d states", s, len(want))
		}
		mustMake(t, n, want)
	}
}

func TestMachinesOfDrawnPatterns(t *testing.T) {
	large, states := 0, 0
	for _, n := range patterns(t, 1200) {
		want, ok := machineOf(n, 60)
		if !ok {
			large++
			mustNotMake(t, pattern.Show(n), n, 60, api.ErrStates)
			continue
		}
		states += len(want)
		mustMake(t, n, want)
		mustCheck(t, "the machine of "+pattern.Show(n), want, api.OK)
		if t.Failed() {
			return
		}
	}
	if large > 40 || states < 2000 {
		t.Errorf("%d patterns are drawn too large, and all others have %d states", large, states)
	}
}

// The machine of a normal form is that of the pattern.
func TestMachinesOfNormalForms(t *testing.T) {
	for _, n := range patterns(t, 600) {
		want, e := dfa.Of(n, 100)
		form := deriv.Norm(n)
		if regex.Check(form) != api.OK {
			t.Fatalf("the normal form of %s may not be", pattern.Show(n))
		}
		if got, f := dfa.Of(form, 100); e != f || !drawn.SameMachines(got, want) {
			t.Fatalf("Of(%s) isn't that of its normal form", pattern.Show(n))
		}
	}
}

// P7.3: limits and errors

func TestLimits(t *testing.T) {
	a, none := one("a"), regex.Alt()
	for _, limit := range []int{0, -1, -4096, math.MinInt, 4097, 4098, 1 << 32, 1<<32 + 1, math.MaxInt} {
		for _, n := range []api.Node{a, none, regex.Cat(), regex.Rep(a, 0, -1), regex.Lit("abc")} {
			mustNotMake(t, pattern.Show(n), n, limit, api.ErrArg)
		}
	}
	// One state fits into a limit of 1, and so do none.
	mustMake(t, regex.Rep(a, 0, -1), api.Machine{state(1, arc('a', 'a', 0))})
	mustMake(t, regex.Cat(), api.Machine{state(1)})
	mustMake(t, none, nil)
	mustNotMake(t, "two states", a, 1, api.ErrStates)
	for states := 2; states < 40; states++ {
		text := regex.Lit(strings.Repeat("a", states-1))
		if m, e := dfa.Of(text, states); e != api.OK || len(m) != states {
			t.Errorf("%d states and %d of %d", len(m), e, states)
		}
		mustNotMake(t, "a text", text, states-1, api.ErrStates)
		// A loop behind the last state that fits doesn't ask for another one.
		loop := regex.Cat(regex.Lit(strings.Repeat("a", states-1)), regex.Rep(a, 0, -1))
		if m, e := dfa.Of(loop, states); e != api.OK || len(m) != states {
			t.Errorf("%d states and %d of a text and a loop of %d", len(m), e, states)
		}
		mustNotMake(t, "a text and a loop", loop, states-1, api.ErrStates)
	}
}

// The state that is one too many may come up last of all, or all at once.
func TestLimitsThatAreMissedByOne(t *testing.T) {
	for s, states := range map[string]int{"a|bc": 3, "ab|c": 3, "(a|b)*abb": 4, "a?b?c?": 4, "[ab]*a[ab]{3}": 16, "~(a*b)": 3, "(.*a.*)&(.*b.*)&(.*c.*)": 8, "ab|ba|ca|cb|da|dc": 6} {
		n := parse(t, s)
		want, ok := machineOf(n, states)
		if !ok || len(want) != states {
			t.Errorf("%s has %d states", s, len(want))
		}
		mustMake(t, n, want)
	}
}

func TestMaxStates(t *testing.T) {
	most := parse(t, "[ab]*a[ab]{11}")
	m, e := dfa.Of(most, api.MaxStates)
	if e != api.OK || len(m) != api.MaxStates {
		t.Errorf("%d states, %d", len(m), e)
	}
	mustCheck(t, "a machine of MaxStates", m, api.OK)
	mustNotMake(t, "MaxStates", most, api.MaxStates-1, api.ErrStates)
	more := regex.Cat(one("c"), most)
	mustNotMake(t, "one more", more, api.MaxStates, api.ErrStates)
	mustNotMake(t, "one more", more, api.MaxStates+1, api.ErrArg)
	mustNotMake(t, "twice as many", parse(t, "[ab]*a[ab]{12}"), api.MaxStates, api.ErrStates)
	mustNotMake(t, "far too many", parse(t, "[ab]*a[ab]{32}"), api.MaxStates, api.ErrStates)
	mustNotMake(t, "an endless row", parse(t, "a{32}{32}{32}{32}"), api.MaxStates, api.ErrStates)

	text := strings.Repeat("ab", 1000)
	m, e = dfa.Of(regex.Lit(text), len(text)+1)
	if e != api.OK || len(m) != len(text)+1 || !dfa.Whole(m, text) || dfa.Whole(m, text[:len(text)-1]) || dfa.Whole(m, text+"a") {
		t.Errorf("%d states of a long text, %d", len(m), e)
	}
	mustNotMake(t, "a long text", regex.Lit(text), len(text), api.ErrStates)
}

func TestInvalidPatternsHaveNoMachine(t *testing.T) {
	a := one("a")
	star := func(n api.Node) api.Node { return regex.Rep(n, 0, -1) }
	self := api.Node{Op: api.OpCat, Kids: make([]api.Node, 2)}
	self.Kids[0], self.Kids[1] = self, self
	for name, n := range map[string]api.Node{
		"kind -1": {Op: -1}, "kind 6": {Op: 6}, "Set with a Kid": {Op: api.OpSet, Kids: []api.Node{a}}, "Rep without Kids": {Op: api.OpRep}, "Rep of two": {Op: api.OpRep, Kids: []api.Node{a, a}},
		"Not without Kids": {Op: api.OpNot}, "Not of two": {Op: api.OpNot, Kids: []api.Node{a, a}}, "Min -1": regex.Rep(a, -1, -1), "Min 33": regex.Rep(a, 33, -1), "Max 33": regex.Rep(a, 0, 33), "{3,2}": regex.Rep(a, 3, 2), "{huge}": regex.Rep(a, math.MaxInt, math.MaxInt),
		"Cat with Max 33": {Op: api.OpCat, Max: 33}, "Set with Min above Max": {Op: api.OpSet, Min: 2, Max: 1}, "one deep inside": regex.Cat(a, regex.Alt(a, star(regex.Rep(a, 3, 2)))), "one in a {0}": regex.Rep(regex.Rep(a, 3, 2), 0, 0),
		"one that is dead": regex.Cat(regex.Alt(), api.Node{Op: 6}), "one in a Not": regex.Not(regex.Not(api.Node{Op: 6})), "one that is too deep": drawn.Nested(a, api.MaxDepth, star), "one that holds itself": self,
		"one of too many states": regex.Cat(parse(t, "[ab]*a[ab]{32}"), api.Node{Op: 6}),
	} {
		// With a wrong limit the answer is the same.
		for _, limit := range []int{1, 2, 4096, 0, -1, 4097, math.MaxInt, math.MinInt} {
			mustNotMake(t, name, n, limit, api.ErrArg)
		}
	}
	mustMake(t, drawn.Nested(a, api.MaxDepth-1, star), api.Machine{state(1, arc('a', 'a', 0))})
}

// P7.4

// mustAccept holds that a pattern's machine accepts a text just if all other packages say that it matches.
func mustAccept(t *testing.T, n api.Node, m api.Machine, a nfa.Nfa, hasNfa bool, s string) {
	t.Helper()
	want := match.Whole(n, s)
	if got := dfa.Whole(m, s); got != want {
		t.Errorf("the machine of %s and %q: %t", pattern.Show(n), s, got)
	}
	if got := deriv.Whole(n, s); got != want {
		t.Errorf("the derivatives of %s and %q: %t", pattern.Show(n), s, got)
	}
	if hasNfa && nfa.Whole(a, s) != want {
		t.Errorf("the machine with choices of %s and %q: %t", pattern.Show(n), s, !want)
	}
}

func TestMachinesAcceptWhatPatternsMatch(t *testing.T) {
	s := drawn.Source(4)
	texts := append(drawn.Texts("abc", 3), "aaaaaa", "ababab", "x", "\x00", "\xff", "a\n", "ab\xff", "\u00e9")
	with, accepted := 0, 0
	for _, n := range patterns(t, 900) {
		m, e := dfa.Of(n, 300)
		if e != api.OK {
			continue
		}
		a, f := nfa.Build(n)
		if f == api.OK {
			with++
		}
		mine := slices.Clone(texts)
		for range 6 {
			mine = append(mine, s.Text(10))
		}
		for _, text := range mine {
			mustAccept(t, n, m, a, f == api.OK, text)
			if dfa.Whole(m, text) {
				accepted++
			}
		}
		if t.Failed() {
			return
		}
	}
	if with < 300 || accepted < 5000 {
		t.Errorf("%d machines with choices, and %d texts that are accepted", with, accepted)
	}
}

// Each single byte: all of them are asked for, and not one of each block only.
func TestMachinesAcceptEachByte(t *testing.T) {
	for _, n := range patterns(t, 60) {
		m, e := dfa.Of(n, 300)
		for b := range 256 {
			s := string([]byte{byte(b)})
			if e == api.OK && dfa.Whole(m, s) != match.Whole(n, s) {
				t.Errorf("the machine of %s and byte %d", pattern.Show(n), b)
			}
		}
	}
}

// Behind a text a machine is in the state of what is left of the pattern: what it accepts from there is what that matches.
func TestStatesAreWhatIsLeft(t *testing.T) {
	for _, n := range patterns(t, 300) {
		m, e := dfa.Of(n, 300)
		if e != api.OK {
			continue
		}
		for _, text := range drawn.Texts("abc", 2) {
			left, at := deriv.All(n, text), dfa.Run(m, text)
			if deriv.Dead(left) != (at == -1) {
				t.Fatalf("the machine of %s is in %d behind %q", pattern.Show(n), at, text)
			}
			if at >= 0 && (m[at].Accept == 1) != regex.Null(left) {
				t.Fatalf("the machine of %s accepts %d behind %q", pattern.Show(n), m[at].Accept, text)
			}
		}
	}
}
