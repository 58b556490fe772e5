package nfa_test

import (
	"math"
	"slices"
	"testing"

	"homograph/api"
	"homograph/byteset"
	"homograph/deriv"
	"homograph/drawn"
	"homograph/match"
	"homograph/nfa"
	"homograph/pattern"
	"homograph/regex"
)

// P6.2

func mustClose(t *testing.T, a nfa.Nfa, l, want []int) {
	t.Helper()
	if got := nfa.Close(a, l); !slices.Equal(got, want) {
		t.Errorf("Close(%v, %v) = %v, want %v", a, l, got, want)
	}
}

func mustStep(t *testing.T, a nfa.Nfa, l []int, b uint8, want []int) {
	t.Helper()
	if got := nfa.Step(a, l, b); !slices.Equal(got, want) {
		t.Errorf("Step(%v, %v, %q) = %v, want %v", a, l, b, got, want)
	}
}

func mustBeWhole(t *testing.T, n api.Node, s string, want bool) {
	t.Helper()
	if got := nfa.Whole(built(t, n), s); got != want {
		t.Errorf("Whole(%s, %q) = %t", pattern.Show(n), s, got)
	}
}

func TestClose(t *testing.T) {
	loop := built(t, parse(t, "a*"))       // 0 to 2 and 1, 3 to 2 and 1
	row := built(t, parse(t, "()()"))      // 0 to 2 to 3 to 4 to 5 to 1
	either := built(t, parse(t, "(a|b)c")) // 0 to 2, 2 to 4 and 6, 5 and 7 to 3, 3 to 8, 9 to 1
	for _, c := range []struct {
		of      nfa.Nfa
		l, want []int
	}{
		{loop, nil, nil}, {loop, []int{}, nil}, {loop, []int{0}, []int{0, 1, 2}}, {loop, []int{1}, []int{1}}, {loop, []int{2}, []int{2}}, {loop, []int{3}, []int{1, 2, 3}},
		{loop, []int{3, 0}, []int{0, 1, 2, 3}}, {loop, []int{2, 1}, []int{1, 2}}, {loop, []int{0, 0, 2, 0, 2}, []int{0, 1, 2}}, {loop, []int{1, 1, 1}, []int{1}},
		{row, []int{0}, []int{0, 1, 2, 3, 4, 5}}, {row, []int{4}, []int{1, 4, 5}}, {row, []int{4, 3}, []int{1, 3, 4, 5}}, {row, []int{1}, []int{1}},
		{either, []int{0}, []int{0, 2, 4, 6}}, {either, []int{7, 5}, []int{3, 5, 7, 8}}, {either, []int{9, 2}, []int{1, 2, 4, 6, 9}},
	} {
		mustClose(t, c.of, c.l, c.want)
	}
}

func TestCloseOfWhatIsNoState(t *testing.T) {
	a := built(t, parse(t, "a*"))
	for _, out := range []int{-1, -2, -64, math.MinInt, 4, 5, 64, 4096, math.MaxInt} {
		mustClose(t, a, []int{out}, nil)
		mustClose(t, a, []int{out, 3, out}, []int{1, 2, 3})
		mustStep(t, a, []int{out}, 'a', nil)
		mustStep(t, a, []int{out, 2, out}, 'a', []int{1, 2, 3})
	}
	mustClose(t, a, []int{a.Count, a.Count - 1}, []int{1, 2, 3})
}

// An Eps may lead back, and several may lead to the same state.
func TestCloseOfCycles(t *testing.T) {
	for _, s := range []string{"()*", "(()*)*", "(a*)*", "((a*)*|b*)*", "(a?b?)+", "(|){3,}", "(|()|()*)*", "((((a*)*)*)*)*"} {
		a := built(t, parse(t, s))
		for state := range a.Count {
			mustClose(t, a, []int{state}, closed(a, []int{state}))
			mustClose(t, a, []int{a.Count - 1, state, 0}, closed(a, []int{a.Count - 1, state, 0}))
		}
	}
	mustClose(t, built(t, parse(t, "()*")), []int{0}, []int{0, 1, 2, 3})
}

func TestStep(t *testing.T) {
	loop := built(t, parse(t, "a*"))       // 2 to 3 by a
	either := built(t, parse(t, "(a|b)c")) // 4 to 5 by a, 6 to 7 by b, 8 to 9 by c
	same := built(t, parse(t, "a[ab]|ab")) // 4 to 5 and 10 to 11 by a, 6 to 7 by both, 12 to 13 by b
	for _, c := range []struct {
		of   nfa.Nfa
		l    []int
		b    uint8
		want []int
	}{
		{loop, nil, 'a', nil}, {loop, []int{2}, 'a', []int{1, 2, 3}}, {loop, []int{2, 2}, 'a', []int{1, 2, 3}}, {loop, []int{2}, 'b', nil}, {loop, []int{2}, 0, nil}, {loop, []int{2}, 255, nil},
		// What the states lead to by nothing isn't asked for.
		{loop, []int{0}, 'a', nil}, {loop, []int{3, 1, 0}, 'a', nil}, {loop, []int{0, 1, 2, 3}, 'a', []int{1, 2, 3}},
		{either, []int{4, 6}, 'a', []int{3, 5, 8}}, {either, []int{6, 4}, 'b', []int{3, 7, 8}}, {either, []int{4, 6}, 'c', nil}, {either, []int{8}, 'c', []int{1, 9}}, {either, []int{8, 6, 4}, 'c', []int{1, 9}},
		{same, []int{10, 4}, 'a', []int{5, 6, 11, 12}}, {same, []int{4}, 'a', []int{5, 6}}, {same, []int{6, 12}, 'b', []int{1, 3, 7, 9, 13}}, {same, []int{12, 6}, 'a', []int{1, 3, 7}},
	} {
		mustStep(t, c.of, c.l, c.b, c.want)
	}
}

func TestStepByEachByte(t *testing.T) {
	for _, s := range []api.Set{{}, byteset.Not(api.Set{}), byteset.Of("a"), byteset.Of("\x00"), byteset.Of("\x7f"), byteset.Of("\xff"), byteset.Of("\x00?@\x7f\x80\xbf\xc0\xff"), byteset.Not(byteset.Of("\x00\x7f\xff"))} {
		a := built(t, regex.Set(s))
		for b := range 256 {
			var want []int
			if s[b/64]>>(b%64)&1 == 1 {
				want = []int{1}
			}
			mustStep(t, a, []int{0}, uint8(b), want)
			mustBeWhole(t, regex.Set(s), string([]byte{byte(b)}), want != nil)
		}
	}
}

// rows are what Close and Step may be asked of a machine.
func rows(a nfa.Nfa, s *drawn.Source) [][]int {
	l := [][]int{nil, {a.Start}, {a.End}, {-1, a.Count, a.Start, a.Start}}
	for range 6 {
		var row []int
		for range s.Below(5) {
			row = append(row, s.Below(a.Count+4)-2)
		}
		l = append(l, row)
	}
	return l
}

func TestCloseAndStepOfDrawnPatterns(t *testing.T) {
	s := drawn.Source(7)
	for _, n := range patterns(t) {
		a := built(t, n)
		for _, l := range rows(a, &s) {
			mustClose(t, a, l, closed(a, l))
			mustClose(t, a, closed(a, l), closed(a, l))
			for _, b := range []byte("abcx\x00\xff") {
				mustStep(t, a, l, b, stepped(a, l, b))
				mustStep(t, a, closed(a, l), b, stepped(a, closed(a, l), b))
			}
		}
		if t.Failed() {
			return
		}
	}
}

func TestWhole(t *testing.T) {
	for _, c := range []struct {
		pattern, bytes string
		want           bool
	}{
		{"", "", true}, {"", "a", false}, {"[]", "", false}, {"[]", "a", false}, {"a", "", false}, {"a", "a", true}, {"a", "b", false}, {"a", "aa", false},
		{"ab", "ab", true}, {"ab", "a", false}, {"ab", "ba", false}, {"ab", "abb", false}, {"a|bc", "a", true}, {"a|bc", "bc", true}, {"a|bc", "b", false}, {"a|bc", "abc", false}, {"a|", "", true},
		{"a*", "", true}, {"a*", "aaaa", true}, {"a*", "aaba", false}, {"a+", "", false}, {"a+", "aaa", true}, {"a?", "", true}, {"a?", "aa", false},
		{"a{3}", "aa", false}, {"a{3}", "aaa", true}, {"a{3}", "aaaa", false}, {"a{2,3}", "a", false}, {"a{2,3}", "aa", true}, {"a{2,3}", "aaa", true}, {"a{2,3}", "aaaa", false}, {"a{2,}", "a", false}, {"a{2,}", "aaaaa", true}, {"a{0}", "", true}, {"a{0}", "a", false},
		{"()*", "", true}, {"()*", "a", false}, {"(a*)*b", "aab", true}, {"(a|b)*abb", "abb", true}, {"(a|b)*abb", "ababb", true}, {"(a|b)*abb", "abba", false}, {"(ab?)*", "aba", true}, {"(ab?)*", "abb", false},
		{".", "\n", false}, {"[^]", "\n", true}, {"[^]{3}", "\x00\x7f\xff", true}, {"\\x00\\x7f\\xff", "\x00\x7f\xff", true}, {"\\xc3\\xa9", "\u00e9", true}, {"[^]", "\u00e9", false},
	} {
		mustBeWhole(t, parse(t, c.pattern), c.bytes, c.want)
	}
}

// Whole is Close of Start, and Step for each byte.
func TestWholeIsCloseAndSteps(t *testing.T) {
	for _, n := range patterns(t) {
		a := built(t, n)
		for _, s := range drawn.Texts("abc", 2) {
			here := nfa.Close(a, []int{a.Start})
			for i := range len(s) {
				here = nfa.Step(a, here, s[i])
			}
			mustBeWhole(t, n, s, slices.Contains(here, a.End))
		}
		if t.Failed() {
			return
		}
	}
}

// P6.3

func TestWholeIsWhatThePatternMatches(t *testing.T) {
	s := drawn.Source(8)
	for i, n := range patterns(t) {
		texts := append(drawn.Texts("abc", 2), "abb", "aabab", "aaaaaaaa", "abababab", "x", "ab\xff")
		for range 8 {
			texts = append(texts, s.Text(10))
		}
		for j, text := range texts {
			want := match.Whole(n, text)
			mustBeWhole(t, n, text, want)
			// Some only, because derivatives of what is drawn may grow.
			if (i+j)%7 == 0 && len(text) < 6 && deriv.Whole(n, text) != want {
				t.Errorf("match and deriv don't agree that %s matches %q", pattern.Show(n), text)
			}
		}
		if t.Failed() {
			return
		}
	}
}

// The machine of a pattern turned round goes through the texts turned round.
func TestWholeOfPatternsTurnedRound(t *testing.T) {
	s := drawn.Source(9)
	for _, n := range patterns(t) {
		for range 4 {
			text := []byte(s.Text(6))
			want := nfa.Whole(built(t, n), string(text))
			slices.Reverse(text)
			mustBeWhole(t, regex.Back(n), string(text), want)
		}
	}
}
