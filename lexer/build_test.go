package lexer_test

import (
	"math"
	"slices"
	"strings"
	"testing"

	"homograph/api"
	"homograph/dfa"
	"homograph/drawn"
	"homograph/lexer"
	"homograph/match"
	"homograph/minim"
	"homograph/pattern"
	"homograph/regex"
)

// P9.1

// mustBuild holds that patterns have a machine, which has so many states ahead of Least: it is the same whatever the limit, and there is none with a lower limit.
func mustBuild(t *testing.T, l []api.Node, states int, want api.Machine) {
	t.Helper()
	for _, limit := range []int{max(1, states), api.MaxStates} {
		if got, e := lexer.Build(l, limit); e != api.OK || !drawn.SameMachines(got, want) {
			t.Errorf("Build(%q, %d) = %v, %d, want %v", shown(l), limit, got, e, want)
		}
	}
	if states > 1 {
		mustNotBuild(t, "a limit of one state less", l, states-1, api.ErrStates)
		mustNotBuild(t, "a limit of 1", l, 1, api.ErrStates)
	}
}

func mustNotBuild(t *testing.T, name string, l []api.Node, limit int, want api.Errno) {
	t.Helper()
	if got, e := lexer.Build(l, limit); e != want || len(got) != 0 {
		t.Errorf("Build of %s with %d has %d states and tells %d, want %d", name, limit, len(got), e, want)
	}
}

func TestMachines(t *testing.T) {
	for _, c := range []struct {
		patterns []string
		states   int
		want     api.Machine
	}{
		{[]string{"a"}, 2, api.Machine{state(0, by('a', 1)), state(1)}},
		{[]string{"a", "a+"}, 3, api.Machine{state(0, by('a', 1)), state(3, by('a', 2)), state(2, by('a', 2))}},
		{[]string{"a+", "a"}, 3, api.Machine{state(0, by('a', 1)), state(3, by('a', 2)), state(1, by('a', 2))}},
		{[]string{"a", "b"}, 3, api.Machine{state(0, by('a', 1), by('b', 2)), state(1), state(2)}},
		{[]string{"b", "a"}, 3, api.Machine{state(0, by('a', 1), by('b', 2)), state(2), state(1)}},
		{[]string{"if", "[a-z]+"}, 4, api.Machine{state(0, arc('a', 'h', 1), by('i', 2), arc('j', 'z', 1)), state(2, arc('a', 'z', 1)), state(2, arc('a', 'e', 1), by('f', 3), arc('g', 'z', 1)), state(3, arc('a', 'z', 1))}},
		{[]string{"ab", "ac", "a"}, 4, api.Machine{state(0, by('a', 1)), state(4, by('b', 2), by('c', 3)), state(1), state(2)}},
		{[]string{"[^]", "a"}, 3, api.Machine{state(0, arc(0, '`', 1), by('a', 2), arc('b', 255, 1)), state(1), state(3)}},
		{[]string{"\\x00", "\\xff", "[^]"}, 4, api.Machine{state(0, by(0, 1), arc(1, 254, 2), by(255, 3)), state(5), state(4), state(6)}},
		{[]string{"a*", "~(a*)"}, 2, api.Machine{state(1, arc(0, '`', 1), by('a', 0), arc('b', 255, 1)), state(2, arc(0, 255, 1))}},
		{[]string{"(aa)*", "(aaa)*"}, 6, api.Machine{state(3, by('a', 1)), state(0, by('a', 2)), state(1, by('a', 3)), state(2, by('a', 4)), state(1, by('a', 5)), state(0, by('a', 0))}},
		{[]string{"[^]*"}, 1, api.Machine{state(1, arc(0, 255, 0))}},
		{[]string{"a", "a*b", "[^]*"}, 5, api.Machine{state(4, arc(0, '`', 1), by('a', 2), by('b', 3), arc('c', 255, 1)), state(4, arc(0, 255, 1)), state(5, arc(0, '`', 1), by('a', 4), by('b', 3), arc('c', 255, 1)), state(6, arc(0, 255, 1)), state(4, arc(0, '`', 1), by('a', 4), by('b', 3), arc('c', 255, 1))}},
	} {
		l := parse(t, c.patterns...)
		mustBuild(t, l, c.states, c.want)
	}
}

// Two elements that are the same, or match the same, keep a bit each.
func TestEqualPatterns(t *testing.T) {
	mustBuild(t, parse(t, "a", "a"), 2, api.Machine{state(0, by('a', 1)), state(3)})
	mustBuild(t, parse(t, "a", "b", "a"), 3, api.Machine{state(0, by('a', 1), by('b', 2)), state(5), state(2)})
	mustBuild(t, parse(t, "ab", "ab", "ab", "ab"), 3, api.Machine{state(0, by('a', 1)), state(0, by('b', 2)), state(15)})
	mustBuild(t, parse(t, "a*", "(a*)*"), 1, api.Machine{state(3, by('a', 0))})
	mustBuild(t, parse(t, "[ab]", "b|a", "a|b|[]"), 2, api.Machine{state(0, arc('a', 'b', 1)), state(7)})
	// These match the same, but have more normal forms apart.
	mustBuild(t, parse(t, "[ab]+", "[ab]+|ab"), 4, api.Machine{state(0, arc('a', 'b', 1)), state(3, arc('a', 'b', 1))})
}

func TestPatternsOfTheEmptyText(t *testing.T) {
	mustBuild(t, parse(t, ""), 1, api.Machine{state(1)})
	mustBuild(t, parse(t, "", "()"), 1, api.Machine{state(3)})
	mustBuild(t, parse(t, "a", ""), 2, api.Machine{state(2, by('a', 1)), state(1)})
	mustBuild(t, parse(t, "", "a"), 2, api.Machine{state(1, by('a', 1)), state(2)})
	mustBuild(t, parse(t, "a?", "b*", "c"), 4, api.Machine{state(3, by('a', 1), by('b', 2), by('c', 3)), state(1), state(2, by('b', 2)), state(4)})
	mustBuild(t, parse(t, "[]*", "[]+", "(){3}", "a{0}"), 1, api.Machine{state(13)})
}

// A list of normal forms that are all Dead is no state; one of some that match nothing all the same is one, till Least leaves it out.
func TestPatternsOfNothing(t *testing.T) {
	for _, l := range [][]string{{}, {"[]"}, {"[]", "a[]b", "a&b", "[]{2,}", "~~[]"}, slices.Repeat([]string{"[]"}, 32)} {
		mustBuild(t, parse(t, l...), 0, nil)
	}
	mustBuild(t, []api.Node{regex.Alt(), regex.Not(regex.And())}, 0, nil)
	a := func(bit uint64) api.Machine { return api.Machine{state(0, by('a', 1)), state(bit)} }
	mustBuild(t, parse(t, "[]", "a"), 2, a(2))
	mustBuild(t, parse(t, "a", "[]"), 2, a(1))
	mustBuild(t, parse(t, "[]", "a&b", "a", "[]+"), 2, a(4))
	mustBuild(t, append(slices.Repeat(parse(t, "[]"), 31), parse(t, "a")...), 2, a(1<<31))
	mustBuild(t, parse(t, "[]", ""), 1, api.Machine{state(2)})

	mustBuild(t, parse(t, "ab&ac"), 1, nil)
	mustBuild(t, parse(t, "xab&xac"), 2, nil)
	mustBuild(t, parse(t, "xyab&xyac", "zab&zac"), 4, nil)
	mustBuild(t, parse(t, "~([^]*)"), 1, nil)
	mustBuild(t, parse(t, "a", "~([^]*)"), 3, a(1))
	mustBuild(t, parse(t, "x(ab&ac)", "a"), 3, a(2))
}

// How many states there are is counted ahead of Least, also of those that it joins or leaves out.
func TestStatesAreCountedAheadOfLeast(t *testing.T) {
	for _, c := range []struct {
		patterns       []string
		states, behind int
	}{
		{[]string{"aa*|b(a*|)"}, 3, 2}, {[]string{"aa*|b(a*|)", "c"}, 4, 3}, {[]string{"c", "[]", "aa*|b(a*|)"}, 4, 3}, {[]string{"aa*|b(a*|)", "aa*|b(a*|)"}, 3, 2}, {[]string{"aa*", "b(a*|)"}, 4, 3}, {[]string{"xab&xac", "x"}, 2, 2}, {[]string{"xyab&xyac", "x"}, 3, 2}, {[]string{"xyab&xyac", "xyab&xyac"}, 3, 0},
		{[]string{"[ab]+", "[ab]+|ab"}, 4, 2}, {[]string{"a(b|c)|d(c|b|bc&bd)"}, 4, 3}, {[]string{"(a|b)*abb", "[ab]{3}"}, 14, 14}, {[]string{"a", "[^]*"}, 3, 3}, {[]string{"a", "[^]*|~b"}, 4, 3},
	} {
		l := parse(t, c.patterns...)
		m, e := lexer.Build(l, c.states)
		if e != api.OK || len(m) != c.behind {
			t.Errorf("Build(%q, %d) has %d states and tells %d", c.patterns, c.states, len(m), e)
		}
		if c.states > 1 {
			mustNotBuild(t, strings.Join(c.patterns, " "), l, c.states-1, api.ErrStates)
		}
		if joint, ok := jointOf(l, 50); !ok || len(joint) != c.states {
			t.Errorf("%q have %d states ahead of Least", c.patterns, len(joint))
		}
	}
}

func TestMachinesOfDrawnLists(t *testing.T) {
	large, fewer := 0, 0
	for _, l := range lists(t, 900) {
		joint, ok := jointOf(l, 60)
		if !ok {
			large++
			mustNotBuild(t, "a drawn list", l, 60, api.ErrStates)
			continue
		}
		least := minim.Least(joint)
		if len(least) < len(joint) {
			fewer++
		}
		mustBuild(t, l, len(joint), least)
		if t.Failed() {
			return
		}
	}
	if large > 20 || fewer < 100 {
		t.Errorf("%d lists are drawn too large, and Least leaves fewer states of %d", large, fewer)
	}
}

// The machine is a least one, whose states are in the order of Least.
func TestMachinesAreLeast(t *testing.T) {
	l, machines := builtLists(t, 600, 300)
	for i, m := range machines {
		if dfa.Check(m) != api.OK || !drawn.SameMachines(minim.Least(m), m) {
			t.Fatalf("Build(%q) = %v", shown(l[i]), m)
		}
	}
}

// P9.1, P9.4: which bits there are

func TestBitsAreThoseOfWhatMatches(t *testing.T) {
	s := drawn.Source(101)
	texts := append(drawn.Texts("abc", 3), "aaaaaa", "ababab", "x", "\x00", "\xff", "a\n", "if", "iffy", "ab\xff", "\u00e9")
	several := 0
	l, machines := builtLists(t, 600, 300)
	for i, m := range machines {
		mine := slices.Clone(texts)
		for range 6 {
			mine = append(mine, s.Text(10))
		}
		for _, text := range mine {
			got, want := resultOf(m, text), wholes(l[i], text)
			if got != want {
				t.Fatalf("the machine of %q and %q: %b, want %b", shown(l[i]), text, got, want)
			}
			if want&(want-1) != 0 {
				several++
			}
		}
	}
	if several < 3000 {
		t.Errorf("several patterns match %d texts", several)
	}
}

// Each single byte: all of them are asked for.
func TestBitsOfEachByte(t *testing.T) {
	l, machines := builtLists(t, 60, 300)
	for i, m := range machines {
		for b := range 256 {
			text := string([]byte{byte(b)})
			if got, want := resultOf(m, text), wholes(l[i], text); got != want {
				t.Errorf("the machine of %q and byte %d: %b, want %b", shown(l[i]), b, got, want)
			}
		}
	}
}

// In another order the patterns have the same bits, in that order.
func TestOrderOfPatterns(t *testing.T) {
	l, machines := builtLists(t, 300, 300)
	for i, m := range machines {
		back := slices.Clone(l[i])
		slices.Reverse(back)
		turned := built(t, back...)
		for _, text := range drawn.Texts("abc", 3) {
			var want uint64
			for k := range back {
				want |= resultOf(m, text) >> (len(back) - 1 - k) & 1 << k
			}
			if got := resultOf(turned, text); got != want {
				t.Fatalf("the machine of %q and %q: %b, want %b", shown(back), text, got, want)
			}
		}
	}
}

// P9.1: limits and errors

func TestThirtyTwoPatterns(t *testing.T) {
	var bytes, prefixes []api.Node
	want := make(api.Machine, 33)
	chain := make(api.Machine, 33)
	for k := range 32 {
		bytes = append(bytes, regex.Lit(string([]byte{byte(8 * k)})))
		want[0].Arcs = append(want[0].Arcs, by(uint8(8*k), k+1))
		want[k+1] = state(1 << k)
		prefixes = append(prefixes, regex.Lit(strings.Repeat("a", k+1)))
		chain[k].Arcs = []api.Arc{by('a', k+1)}
		chain[k+1].Accept = 1 << k
	}
	mustBuild(t, bytes, 33, want)
	mustBuild(t, prefixes, 33, chain)
	mustBuild(t, slices.Repeat(parse(t, "a"), 32), 2, api.Machine{state(0, by('a', 1)), state(math.MaxUint32)})
	mustBuild(t, slices.Repeat(parse(t, ""), 32), 1, api.Machine{state(math.MaxUint32)})
}

func TestMoreThanThirtyTwoPatterns(t *testing.T) {
	invalid := api.Node{Op: 6}
	for name, n := range map[string]api.Node{"one byte": regex.Lit("a"), "nothing": regex.Alt(), "the empty text": regex.Cat(), "what may not be": invalid, "a row": regex.Lit(strings.Repeat("a", 50))} {
		for _, count := range []int{33, 34, 64, 65, 1000, 1 << 16} {
			l := slices.Repeat([]api.Node{n}, count)
			for _, limit := range []int{1, 2, 40, 4096, 0, -1, 4097, math.MinInt, math.MaxInt} {
				mustNotBuild(t, name+" too often", l, limit, api.ErrMany)
			}
			l[count-1], l[0] = invalid, invalid
			mustNotBuild(t, name+" too often, with what may not be", l, 4096, api.ErrMany)
		}
	}
}

func TestLimits(t *testing.T) {
	for _, limit := range []int{0, -1, -4096, math.MinInt, 4097, 4098, 1 << 32, 1<<32 + 1, math.MaxInt} {
		for _, l := range [][]string{{}, {"a"}, {"[]"}, {""}, {"a", "b", "c"}, {"[ab]*a[ab]{12}"}, slices.Repeat([]string{"a"}, 32)} {
			mustNotBuild(t, strings.Join(l, " "), parse(t, l...), limit, api.ErrArg)
		}
	}
	for _, limit := range []int{1, 2, 4095, 4096} {
		if m, e := lexer.Build(nil, limit); e != api.OK || len(m) != 0 {
			t.Errorf("Build of none with %d has %d states and tells %d", limit, len(m), e)
		}
	}
	// The first list counts, too.
	mustNotBuild(t, "two states", parse(t, "a", "a"), 1, api.ErrStates)
	for states := 2; states < 40; states++ {
		l := []api.Node{regex.Lit(strings.Repeat("a", states-1)), regex.Lit("a"), regex.Alt()}
		if m, e := lexer.Build(l, states); e != api.OK || len(m) != states {
			t.Errorf("%d states and %d of %d", len(m), e, states)
		}
		mustNotBuild(t, "a row", l, states-1, api.ErrStates)
		// A loop behind the last state that fits doesn't ask for another one.
		l = []api.Node{regex.Cat(l[0], regex.Rep(regex.Lit("a"), 0, -1)), regex.Rep(regex.Lit("a"), 0, -1)}
		if m, e := lexer.Build(l, states); e != api.OK || len(m) != states {
			t.Errorf("%d states and %d of a row and a loop of %d", len(m), e, states)
		}
		mustNotBuild(t, "a row and a loop", l, states-1, api.ErrStates)
	}
}

// Lists may be many where each pattern has few normal forms.
func TestListsAreCountedAndNotNormalForms(t *testing.T) {
	for _, c := range []struct {
		patterns []string
		states   int
	}{{[]string{"(a{3})*", "(a{5})*"}, 15}, {[]string{"(a{4})*", "(a{6})*"}, 12}, {[]string{"(a{5})*", "(b{5})*"}, 11}, {[]string{".*a.{3}", ".*b.{3}"}, 81}, {[]string{"(a{16})*", "(a{17})*", "(a{15})*"}, 4080}} {
		l := parse(t, c.patterns...)
		m, e := lexer.Build(l, c.states)
		if joint, ok := jointOf(l, 100); ok && len(joint) != c.states {
			t.Errorf("%q have %d states ahead of Least", c.patterns, len(joint))
		}
		if e != api.OK || len(m) == 0 {
			t.Errorf("Build(%q, %d) tells %d", c.patterns, c.states, e)
		}
		mustNotBuild(t, strings.Join(c.patterns, " "), l, c.states-1, api.ErrStates)
	}
	mustNotBuild(t, "4199 states of 49 normal forms", parse(t, "(a{17})*", "(a{19})*", "(a{13})*"), 4096, api.ErrStates)
	var many []api.Node
	for k := range 32 {
		many = append(many, regex.Rep(regex.Lit(strings.Repeat("a", k+1)), 0, -1))
	}
	mustNotBuild(t, "far too many states", many, 4096, api.ErrStates)
}

func TestMaxStates(t *testing.T) {
	most, fewer := "[ab]*a[ab]{11}", "[ab]*a[ab]{10}"
	for _, l := range [][]string{{most}, {most, fewer}, {"[]", fewer, most}} {
		m, e := lexer.Build(parse(t, l...), 4096)
		if e != api.OK || len(m) != 4096 || dfa.Check(m) != api.OK {
			t.Errorf("Build(%q, 4096) has %d states and tells %d", l, len(m), e)
		}
		mustNotBuild(t, strings.Join(l, " "), parse(t, l...), 4095, api.ErrStates)
		mustNotBuild(t, strings.Join(l, " "), parse(t, l...), 4097, api.ErrArg)
	}
	mustNotBuild(t, "some more", parse(t, most, "c"), 4096, api.ErrStates)
	mustNotBuild(t, "some more", parse(t, "c", most), 4096, api.ErrStates)
	mustNotBuild(t, "twice as many", parse(t, "a", "[ab]*a[ab]{12}"), 4096, api.ErrStates)
	mustNotBuild(t, "far too many", parse(t, "[ab]*a[ab]{32}", "[ab]*b[ab]{32}"), 4096, api.ErrStates)

	text := strings.Repeat("ab", 1000)
	l := []api.Node{regex.Lit(text), regex.Lit(text[:1000]), regex.Lit(text[1:])}
	m, e := lexer.Build(l, 4001)
	if e != api.OK || len(m) != 4000 || resultOf(m, text) != 1 || resultOf(m, text[:1000]) != 2 || resultOf(m, text[1:]) != 4 || resultOf(m, text[:1999]) != 0 {
		t.Errorf("%d states of long texts, %d", len(m), e)
	}
}

func TestInvalidPatterns(t *testing.T) {
	a := regex.Lit("a")
	star := func(n api.Node) api.Node { return regex.Rep(n, 0, -1) }
	self := api.Node{Op: api.OpCat, Kids: make([]api.Node, 2)}
	self.Kids[0], self.Kids[1] = self, self
	many := parse(t, "[ab]*a[ab]{32}")[0]
	for name, n := range map[string]api.Node{
		"kind -1": {Op: -1}, "kind 6": {Op: 6}, "Set with a Kid": {Op: api.OpSet, Kids: []api.Node{a}}, "Rep without Kids": {Op: api.OpRep}, "Not of two": {Op: api.OpNot, Kids: []api.Node{a, a}}, "Min -1": regex.Rep(a, -1, -1), "Max 33": regex.Rep(a, 0, 33), "{3,2}": regex.Rep(a, 3, 2), "Cat with Max 33": {Op: api.OpCat, Max: 33},
		"one deep inside": regex.Cat(a, regex.Alt(a, star(regex.Rep(a, 3, 2)))), "one that is dead": regex.Cat(regex.Alt(), api.Node{Op: 6}), "one that is too deep": drawn.Nested(a, api.MaxDepth, star), "one that holds itself": self, "one of too many states": regex.Cat(many, api.Node{Op: 6}),
	} {
		// Wherever it stands, and whatever else is wrong but for the number of patterns, the answer is the same.
		for _, l := range [][]api.Node{{n}, {n, n}, {a, n}, {n, a}, {a, n, regex.Alt()}, {regex.Alt(), n}, {n, many}, {many, n}, {many, a, n}, append(slices.Repeat([]api.Node{a}, 31), n), slices.Repeat([]api.Node{n}, 32)} {
			for _, limit := range []int{1, 2, 4096, 0, 4097, math.MinInt, math.MaxInt} {
				mustNotBuild(t, name, l, limit, api.ErrArg)
			}
		}
	}
	mustBuild(t, []api.Node{drawn.Nested(a, api.MaxDepth-2, star), regex.Rep(a, 0, 0)}, 2, api.Machine{state(3, by('a', 1)), state(1, by('a', 1))})
}

func TestDeepPatterns(t *testing.T) {
	a := regex.Lit("a")
	for name, outer := range map[string]func(api.Node) api.Node{
		"Not": regex.Not, "+": func(n api.Node) api.Node { return regex.Rep(n, 1, -1) }, "Alt": func(n api.Node) api.Node { return regex.Alt(n, regex.Lit("ab")) }, "Cat": func(n api.Node) api.Node { return regex.Cat(n, regex.Set(regex.Bytes(a))) }, "Not in a Cat": func(n api.Node) api.Node { return regex.Cat(a, regex.Not(n)) },
	} {
		l := []api.Node{drawn.Nested(a, 30, outer), a, drawn.Nested(a, 31, outer)}
		joint, ok := jointOf(l, 100)
		if !ok {
			t.Fatalf("%s is nested too deep", name)
		}
		mustBuild(t, l, len(joint), minim.Least(joint))
		for _, text := range append(drawn.Texts("ab", 4), strings.Repeat("a", 31), strings.Repeat("a", 32)) {
			if got, want := resultOf(built(t, l...), text)&1 == 1, match.Whole(l[0], text); got != want {
				t.Errorf("%s and %q: %t", pattern.Show(l[0]), text, got)
			}
		}
	}
}
