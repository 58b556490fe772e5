package match_test

import (
	"slices"
	"strings"
	"testing"
	"unsafe"

	"homograph/api"
	"homograph/drawn"
	"homograph/match"
	"homograph/pattern"
	"homograph/regex"
)

// Rule 1: every call returns, also of deep patterns and long texts.

// outers put a pattern one level or two deeper, so that a step of a level would take a step or more of the one below it.
func outers() map[string]func(api.Node) api.Node {
	a, z := one("a"), one("z")
	return map[string]func(api.Node) api.Node{
		"Not":             regex.Not,
		"Cat":             func(n api.Node) api.Node { return regex.Cat(n) },
		"Alt":             func(n api.Node) api.Node { return regex.Alt(n, a) },
		"And":             func(n api.Node) api.Node { return regex.And(n, regex.Rep(a, 0, -1)) },
		"*":               func(n api.Node) api.Node { return regex.Rep(n, 0, -1) },
		"+":               func(n api.Node) api.Node { return regex.Rep(n, 1, -1) },
		"?":               func(n api.Node) api.Node { return regex.Rep(n, 0, 1) },
		"{0,32}":          func(n api.Node) api.Node { return regex.Rep(n, 0, 32) },
		"{1,32}":          func(n api.Node) api.Node { return regex.Rep(n, 1, 32) },
		"{2}":             func(n api.Node) api.Node { return regex.Rep(n, 2, 2) },
		"{32,}":           func(n api.Node) api.Node { return regex.Rep(n, 32, -1) },
		"{2} of an Alt":   func(n api.Node) api.Node { return regex.Rep(regex.Alt(n, a), 2, 2) },
		"{2,3} of an Alt": func(n api.Node) api.Node { return regex.Rep(regex.Alt(n, a), 2, 3) },
		"* in a Not":      func(n api.Node) api.Node { return regex.Not(regex.Rep(n, 0, -1)) },
		"Cat in a Not":    func(n api.Node) api.Node { return regex.Not(regex.Cat(regex.Rep(a, 0, -1), n)) },
		"* and z, or a":   func(n api.Node) api.Node { return regex.Alt(regex.Cat(regex.Rep(n, 0, -1), z), a) },
	}
}

func TestDeepPatterns(t *testing.T) {
	for name, outer := range outers() {
		levels := 0
		for regex.Check(drawn.Nested(one("a"), levels+1, outer)) == api.OK {
			levels++
		}
		n := drawn.Nested(one("a"), levels, outer)
		for _, s := range []string{"", "a", "aaab", strings.Repeat("a", 40), strings.Repeat("ab", 20)} {
			ends := match.Ends(n, s, 0)
			rest := slices.DeleteFunc(upTo(0, len(s)), func(to int) bool { return slices.Contains(ends, to) })
			if got := match.Ends(regex.Not(n), s, 0); !slices.Equal(got, rest) {
				t.Errorf("%d times %s, and a Not of it, on %q: %v and %v", levels, name, s, ends, got)
			}
		}
		for _, s := range []string{"", "a", "aaba"} {
			small := drawn.Nested(one("a"), 4, outer)
			mustEnd(t, small, s, 0, tableOf(small, s).ends(0))
		}
	}
	mustEnd(t, drawn.Nested(one("a"), 63, regex.Not), "ab", 0, []int{0, 2})
	mustEnd(t, drawn.Nested(one("a"), 62, regex.Not), "ab", 0, []int{1})
	mustEnd(t, drawn.Nested(one("a"), 63, outers()["+"]), "aaab", 0, upTo(1, 3))
	mustEnd(t, drawn.Nested(one("a"), 63, outers()["*"]), "aaab", 0, upTo(0, 3))
	mustEnd(t, drawn.Nested(one("a"), 5, outers()["{2}"]), strings.Repeat("a", 40), 0, []int{32})
	mustEnd(t, drawn.Nested(one("a"), 31, outers()["{2} of an Alt"]), strings.Repeat("a", 40), 0, upTo(2, 40))
}

func TestLongTexts(t *testing.T) {
	long := strings.Repeat("a", api.MaxText)
	words := strings.Repeat("ab ", api.MaxText/3)
	var even []int
	for at := 0; at <= len(long); at += 2 {
		even = append(even, at)
	}
	for s, want := range map[string][]int{
		"a*":             upTo(0, len(long)),
		"(a*)*":          upTo(0, len(long)),
		"(a|b)*":         upTo(0, len(long)),
		"(a+b?)+":        upTo(1, len(long)),
		"(aa)*&.*":       even,
		"((aa)*)*":       even,
		"a{32}{32}":      {1024},
		"(a{2,3}){2,32}": upTo(4, 96),
		".*a.*a.*":       upTo(2, len(long)),
		"~(.*b.*)":       upTo(0, len(long)),
		"~(.*a.*)":       {0},
		"(~b)*":          upTo(0, len(long)),
	} {
		got := match.Ends(parse(t, s), long, 0)
		if !slices.Equal(got, want) {
			t.Errorf("%s has %d ends, want %d", s, len(got), len(want))
		}
	}
	if !match.Whole(regex.Lit(long), long) {
		t.Error("a long text doesn't match itself")
	}
	mustBeFirst(t, one("b"), long, 0, 0, 0, false)
	mustBeFirst(t, one("b"), long+"b", 0, len(long), len(long)+1, true)
	if got, want := match.Cut(one(" "), words), strings.Split(words, " "); !slices.Equal(got, want) {
		t.Errorf("%d words, want %d", len(got), len(want))
	}
	if got := match.Cut(parse(t, "[a-z]+"), words); len(got) != api.MaxText/3+1 || got[0] != "" || got[1] != " " {
		t.Errorf("%d gaps", len(got))
	}
}

// A derivative may be deeper than a pattern may be.
func TestPatternsBeyondTheGreatestDepth(t *testing.T) {
	mustEnd(t, drawn.Nested(one("a"), 1000, regex.Not), "ab", 0, []int{1})
	mustEnd(t, drawn.Nested(one("a"), 200, outers()["Cat"]), "ab", 0, []int{1})
	mustEnd(t, drawn.Nested(one("a"), 200, outers()["+"]), "aab", 0, []int{1, 2})
}

// Of a pattern that isn't valid nothing is promised, but a call ends all the same.
func TestWhatIsNotValid(t *testing.T) {
	self := api.Node{Op: api.OpRep, Min: 1, Max: -1, Kids: make([]api.Node, 2)}
	self.Kids[0], self.Kids[1] = self, self
	a := one("a")
	for _, n := range []api.Node{
		{Op: -1}, {Op: 6, Kids: []api.Node{a}}, {Op: api.OpSet, Set: a.Set, Kids: []api.Node{a}},
		{Op: api.OpRep}, {Op: api.OpRep, Max: -1}, {Op: api.OpRep, Min: 3}, {Op: api.OpRep, Kids: []api.Node{a, a}}, {Op: api.OpNot}, {Op: api.OpNot, Kids: []api.Node{a, a}},
		regex.Rep(a, -1, -1), regex.Rep(a, 2, 1), regex.Rep(a, 1<<62, 1<<62), regex.Rep(regex.Cat(), 1<<62, 1<<62), regex.Rep(a, -1<<62, 1<<62),
		self, {Op: api.OpNot, Kids: self.Kids[:1]}, regex.Cat(a, api.Node{Op: 9}),
	} {
		for _, s := range []string{"", "a", "aaab"} {
			match.Ends(n, s, 0)
			match.Whole(n, s)
			match.Longest(n, s, 1)
			match.First(n, s, 0)
			match.Cut(n, s)
		}
	}
}

// Rule 3: arguments are neither modified nor retained, and results are in new memory.

func TestArgumentsAreNotModified(t *testing.T) {
	for _, n := range patterns(t) {
		arg, before := drawn.Roomy(n), drawn.Roomy(n)
		for _, s := range []string{"", "aabab"} {
			match.Ends(arg, s, 0)
			match.Whole(arg, s)
			match.Longest(arg, s, 1)
			match.First(arg, s, 0)
			match.Cut(arg, s)
		}
		if !drawn.Whole(arg, before) {
			t.Fatalf("a call modified %s", pattern.Show(n))
		}
	}
}

func TestNothingIsKeptFromCallToCall(t *testing.T) {
	for _, n := range patterns(t) {
		arg, s := drawn.Roomy(n), "aabab"
		ends, pieces := match.Ends(arg, s, 0), match.Cut(arg, s)
		wantEnds, wantPieces := slices.Clone(ends), slices.Clone(pieces)
		// Another pattern in the same memory, which must be matched as what it is.
		drawn.Spoil(arg)
		mustEnd(t, arg, s, 0, tableOf(arg, s).ends(0))
		mustCut(t, arg, s, tableOf(arg, s).cut(s, 0)...)
		if !slices.Equal(ends, wantEnds) || !slices.Equal(pieces, wantPieces) {
			t.Fatalf("a result of %s changed with its argument", pattern.Show(n))
		}
		for i := range ends {
			ends[i] = -1
		}
		for i := range pieces {
			pieces[i] = "?"
		}
		mustEnd(t, n, s, 0, wantEnds)
		mustCut(t, n, s, wantPieces...)
	}
}

func TestPiecesAreInNewMemory(t *testing.T) {
	s := strings.Repeat("abc,", 4)
	begin := uintptr(unsafe.Pointer(unsafe.StringData(s)))
	for _, n := range []api.Node{one(","), one("x"), regex.Cat()} {
		for _, piece := range match.Cut(n, s) {
			if at := uintptr(unsafe.Pointer(unsafe.StringData(piece))); piece != "" && at >= begin && at < begin+uintptr(len(s)) {
				t.Errorf("the piece %q of a Cut lies in the text", piece)
			}
		}
	}
}
