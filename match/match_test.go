package match_test

import (
	"math"
	"slices"
	"strings"
	"testing"

	"homograph/api"
	"homograph/byteset"
	"homograph/drawn"
	"homograph/match"
	"homograph/pattern"
	"homograph/regex"
)

// one is a Set of the bytes of a text.
func one(s string) api.Node { return regex.Set(byteset.Of(s)) }

// upTo is the numbers from lo up to hi.
func upTo(lo, hi int) []int {
	var l []int
	for n := lo; n <= hi; n++ {
		l = append(l, n)
	}
	return l
}

func mustEnd(t *testing.T, n api.Node, s string, from int, want []int) {
	t.Helper()
	if got := match.Ends(n, s, from); !slices.Equal(got, want) {
		t.Errorf("Ends(%s, %q, %d) = %v, want %v", pattern.Show(n), s, from, got, want)
	}
}

func mustBeLongest(t *testing.T, n api.Node, s string, from, want int, wantOk bool) {
	t.Helper()
	if got, ok := match.Longest(n, s, from); got != want || ok != wantOk {
		t.Errorf("Longest(%s, %q, %d) = %d, %t, want %d, %t", pattern.Show(n), s, from, got, ok, want, wantOk)
	}
}

func mustBeFirst(t *testing.T, n api.Node, s string, from, wantAt, wantTo int, wantOk bool) {
	t.Helper()
	if at, to, ok := match.First(n, s, from); at != wantAt || to != wantTo || ok != wantOk {
		t.Errorf("First(%s, %q, %d) = %d, %d, %t, want %d, %d, %t", pattern.Show(n), s, from, at, to, ok, wantAt, wantTo, wantOk)
	}
}

func mustCut(t *testing.T, n api.Node, s string, want ...string) {
	t.Helper()
	if got := match.Cut(n, s); !slices.Equal(got, want) {
		t.Errorf("Cut(%s, %q) = %q, want %q", pattern.Show(n), s, got, want)
	}
}

// everywhere goes through patterns, texts and what the tables say of them.
func everywhere(t *testing.T, check func(n api.Node, s string, want table)) {
	t.Helper()
	for i, n := range patterns(t) {
		for j, s := range texts() {
			// All texts for the patterns that are written out, and some for the others.
			if i < len(drawn.PatternTexts()) || (i+j)%9 == 0 {
				check(n, s, tableOf(n, s))
			}
		}
		if t.Failed() {
			return
		}
	}
}

// P4.1

func TestEndsOfEachKind(t *testing.T) {
	for _, c := range []struct {
		pattern, text string
		from          int
		want          []int
	}{
		{"a*", "aab", 0, []int{0, 1, 2}},
		{"a*", "aab", 1, []int{1, 2}},
		{"a*", "aab", 2, []int{2}},
		{"a*", "aab", 3, []int{3}},
		{"a", "ab", 0, []int{1}},
		{"a", "ab", 1, nil},
		{"a", "ab", 2, nil},
		{"[]", "ab", 0, nil},
		{"[^]", "ab", 1, []int{2}},
		{"ab", "ab", 0, []int{2}},
		{"ab", "aab", 0, nil},
		{"(a|ab)(b|)", "abb", 0, []int{1, 2, 3}},
		{"a|ab|abc", "abab", 2, []int{3, 4}},
		{"a|b", "c", 0, nil},
		{"(ab|b)&(a|b)", "ab", 0, nil},
		{"a*&(aa)*", "aaaaa", 0, []int{0, 2, 4}},
		{"(aa)*&(aaa)*", "aaaaaaaaaaaa", 0, []int{0, 6, 12}},
		{"(aa)*&(aaa)*", "aaaaaaaaaaaa", 1, []int{1, 7}},
		{"~a", "aab", 0, []int{0, 2, 3}},
		{"~a", "aab", 3, []int{3}},
		{"~(a*)", "aab", 0, []int{3}},
		{"~([^]*)", "aab", 0, nil},
		{".*&~(.*b.*)", "aabaa", 0, []int{0, 1, 2}},
		{"(ab)*", "ababa", 0, []int{0, 2, 4}},
	} {
		mustEnd(t, parse(t, c.pattern), c.text, c.from, c.want)
	}
}

func TestEndsOfRepetitions(t *testing.T) {
	for _, c := range []struct {
		pattern, text string
		want          []int
	}{
		{"a{0}", "aa", []int{0}},
		{"a{1}", "aa", []int{1}},
		{"a{2}", "aaaa", []int{2}},
		{"a{5}", "aaaa", nil},
		{"a{2,3}", "aaaa", []int{2, 3}},
		{"a{2,3}", "a", nil},
		{"a{2,}", "aaaaa", []int{2, 3, 4, 5}},
		{"a?", "aa", []int{0, 1}},
		{"(ab)+", "ababa", []int{2, 4}},
		{"(aa|aaa)*", "aaaaaa", []int{0, 2, 3, 4, 5, 6}},
		{"(aa|aaa){2}", "aaaaaaa", []int{4, 5, 6}},
		{"(aa|aaa){2,}", "aaaaaaa", []int{4, 5, 6, 7}},
		{"(a{2}){2}", "aaaaa", []int{4}},
		{"(a{2,3}){2,3}", "aaaaaaaaaa", upTo(4, 9)},
		{"()*", "aa", []int{0}},
		{"(){32}", "aa", []int{0}},
		{"(a?){3}", "aaaa", upTo(0, 3)},
		{"(a?){3,}", "aaaa", upTo(0, 4)},
		{"(a?){2,3}", "aaaa", upTo(0, 3)},
		{"(a*){2}", "aaa", upTo(0, 3)},
		{"(a*)*", "aab", upTo(0, 2)},
		{"(a|aa){2}b", "aaaaab", nil},
		{"(a|aa){2}b", "aaab", []int{4}},
		{"[]*", "aa", []int{0}},
		{"[]+", "aa", nil},
		{"(~a){2}", "aaa", []int{0, 2, 3}},
		{"(~())+", "aaa", upTo(1, 3)},
		{"(~()){2}", "aaa", upTo(2, 3)},
	} {
		mustEnd(t, parse(t, c.pattern), c.text, 0, c.want)
	}
	// Every Max below 0 is no limit, and the one of another kind has no meaning.
	for _, most := range []int{-1, -2, -32, math.MinInt} {
		mustEnd(t, regex.Rep(one("a"), 1, most), "aaab", 0, upTo(1, 3))
		mustEnd(t, regex.Rep(one("a"), 32, most), strings.Repeat("a", 40), 1, upTo(33, 40))
		mustEnd(t, api.Node{Op: api.OpCat, Max: most, Kids: []api.Node{one("a")}}, "aa", 0, []int{1})
	}
}

func TestEndsOfWhatHasNoKids(t *testing.T) {
	for _, s := range []string{"", "ab", "\x00\xff"} {
		for from := range len(s) + 1 {
			mustEnd(t, regex.Cat(), s, from, []int{from})
			mustEnd(t, regex.Alt(), s, from, nil)
			mustEnd(t, regex.And(), s, from, upTo(from, len(s)))
			mustEnd(t, regex.Not(regex.Cat()), s, from, upTo(from+1, len(s)))
			mustEnd(t, regex.Not(regex.Alt()), s, from, upTo(from, len(s)))
			mustEnd(t, regex.Not(regex.And()), s, from, nil)
		}
	}
}

func TestEndsOfANotInsideOthers(t *testing.T) {
	for _, c := range []struct {
		pattern, text string
		want          []int
	}{
		{"~~a", "ab", []int{1}},
		{"~~~a", "ab", []int{0, 2}},
		{"~~()", "ab", []int{0}},
		{"a~b", "aab", upTo(1, 3)},
		{"a~b", "ab", []int{1}},
		{"~ab", "aab", []int{3}},
		{"~ab", "ab", nil},
		{"~ab", "b", []int{1}},
		{"~a~a", "a", []int{0}},
		{"(~a)*", "a", []int{0}},
		{"(~a)*", "aa", []int{0, 2}},
		{"(~[^])*", "aaaa", []int{0, 2, 3, 4}},
		{"(a~b)*", "abab", []int{0, 1, 3, 4}},
		{"~(a~b)", "ab", []int{0, 2}},
		{"~((~a)*)", "aa", []int{1}},
		// What one offset may not reach, another one may.
		{"[ab]?(a|b&~b)", "ab", []int{1}},
		{"a?~(a*)", "aab", []int{3}},
		{"(|a)(aa&~(aa)|a&~b)", "aaa", []int{1, 2}},
		{"(|a)~(.)", "aa", []int{0, 1, 2}},
	} {
		mustEnd(t, parse(t, c.pattern), c.text, 0, c.want)
	}
}

func TestEndsFromOddOffsets(t *testing.T) {
	everything := regex.And()
	for _, s := range []string{"", "a", "aab"} {
		for _, n := range []api.Node{everything, regex.Cat(), one("a"), regex.Not(one("a")), regex.Rep(one("a"), 0, -1)} {
			for _, from := range []int{-1, -2, math.MinInt, len(s) + 1, len(s) + 2, math.MaxInt} {
				if got := match.Ends(n, s, from); got != nil {
					t.Errorf("Ends(%s, %q, %d) = %v, want nil", pattern.Show(n), s, from, got)
				}
				mustBeLongest(t, n, s, from, 0, false)
			}
		}
		mustEnd(t, everything, s, 0, upTo(0, len(s)))
		mustEnd(t, everything, s, len(s), []int{len(s)})
		mustEnd(t, one("a"), s, len(s), nil)
		mustEnd(t, regex.Not(one("a")), s, len(s), []int{len(s)})
	}
	if got := match.Ends(one("b"), "a", 0); got != nil {
		t.Errorf("Ends where nothing matches = %v, want nil", got)
	}
}

func TestEndsOfEachByte(t *testing.T) {
	for b := range 256 {
		s := string([]byte{byte(b), byte(b), byte(b) + 1})
		own := regex.Set(byteset.Range(byte(b), byte(b)))
		mustEnd(t, own, s, 0, []int{1})
		mustEnd(t, own, s, 2, nil)
		mustEnd(t, regex.Rep(own, 0, -1), s, 0, upTo(0, 2))
		mustEnd(t, regex.Set(byteset.Not(own.Set)), s, 0, nil)
		mustEnd(t, regex.Set(byteset.Not(own.Set)), s, 2, []int{3})
		mustEnd(t, regex.Lit(s), s, 0, []int{3})
		mustEnd(t, regex.Not(own), s, 0, []int{0, 2, 3})
	}
	// Bytes, not characters.
	mustEnd(t, regex.Rep(regex.Set(byteset.Range(0, 255)), 2, 2), "é\n", 0, []int{2})
	mustEnd(t, parse(t, `\xc3[\x80-\xff]`), "é", 0, []int{2})
	mustEnd(t, parse(t, `[\x00-\x1f\x7f]+`), "\x00\x1f\x7f\x80", 0, upTo(1, 3))
}

func TestEndsAreThoseOfTheChapter(t *testing.T) {
	everywhere(t, func(n api.Node, s string, want table) {
		for from := range want {
			mustEnd(t, n, s, from, want.ends(from))
		}
	})
}

func TestEndsRise(t *testing.T) {
	everywhere(t, func(n api.Node, s string, want table) {
		for from := range want {
			last := from - 1
			for _, to := range match.Ends(n, s, from) {
				if to <= last || to > len(s) {
					t.Errorf("Ends(%s, %q, %d) has %d behind %d", pattern.Show(n), s, from, to, last)
				}
				last = to
			}
		}
	})
}

// P4.2

func TestWhole(t *testing.T) {
	for _, c := range []struct {
		pattern, text string
		want          bool
	}{
		{"", "", true}, {"", "a", false}, {"a", "", false}, {"a", "a", true}, {"a", "aa", false}, {"aa", "a", false},
		{"a*", "", true}, {"a*", "aaa", true}, {"a*", "aab", false}, {"a*", "baa", false},
		{"a|aab|aa", "aab", true}, {"a|aab|aa", "aa", true}, {"a|aab|aa", "ab", false},
		{"[]", "", false}, {"[^]*", "", true}, {"[^]*", "\x00\n\xff", true},
		{"~a", "", true}, {"~a", "a", false}, {"~a", "aa", true}, {"~()", "", false},
		{"a{3}", "aaa", true}, {"a{3}", "aa", false}, {"a{3}", "aaaa", false},
	} {
		if got := match.Whole(parse(t, c.pattern), c.text); got != c.want {
			t.Errorf("Whole(%s, %q) = %t", c.pattern, c.text, got)
		}
	}
	everywhere(t, func(n api.Node, s string, want table) {
		if got := match.Whole(n, s); got != want[0][len(s)] {
			t.Errorf("Whole(%s, %q) = %t", pattern.Show(n), s, got)
		}
	})
}

func TestLongest(t *testing.T) {
	mustBeLongest(t, parse(t, "a*"), "aab", 0, 2, true)
	mustBeLongest(t, parse(t, "a|aab|aa"), "aabb", 0, 3, true)
	mustBeLongest(t, parse(t, "a"), "ba", 0, 0, false)
	mustBeLongest(t, parse(t, "a"), "ba", 1, 2, true)
	mustBeLongest(t, parse(t, "a"), "ba", 2, 0, false)
	// The offset itself, also where that is 0, isn't the same as none.
	mustBeLongest(t, parse(t, "a*"), "ba", 0, 0, true)
	mustBeLongest(t, parse(t, "a*"), "bba", 1, 1, true)
	mustBeLongest(t, parse(t, "a*"), "ba", 2, 2, true)
	mustBeLongest(t, parse(t, ""), "", 0, 0, true)
	mustBeLongest(t, parse(t, "a"), "", 0, 0, false)
	everywhere(t, func(n api.Node, s string, want table) {
		for from := range want {
			to, ok := want.longest(from)
			mustBeLongest(t, n, s, from, to, ok)
		}
	})
}

func TestFirst(t *testing.T) {
	mustBeFirst(t, parse(t, "a+"), "bbaab", 0, 2, 4, true)
	mustBeFirst(t, parse(t, "a+"), "bbaab", 2, 2, 4, true)
	mustBeFirst(t, parse(t, "a+"), "bbaab", 3, 3, 4, true)
	mustBeFirst(t, parse(t, "a+"), "bbaab", 4, 0, 0, false)
	mustBeFirst(t, parse(t, "a+"), "bbaab", 5, 0, 0, false)
	mustBeFirst(t, parse(t, "a"), "aa", 0, 0, 1, true)
	// An empty match is one too, at the end of the text as well.
	mustBeFirst(t, parse(t, "a*"), "baa", 0, 0, 0, true)
	mustBeFirst(t, parse(t, "a*"), "baa", 1, 1, 3, true)
	mustBeFirst(t, parse(t, "a*"), "baa", 3, 3, 3, true)
	mustBeFirst(t, parse(t, "~[^]"), "baa", 3, 3, 3, true)
	mustBeFirst(t, parse(t, "~(b|a*)"), "baa", 1, 0, 0, false)
	mustBeFirst(t, parse(t, ""), "", 0, 0, 0, true)
	mustBeFirst(t, parse(t, "a"), "", 0, 0, 0, false)
	mustBeFirst(t, parse(t, "c"), "abab", 0, 0, 0, false)
}

func TestFirstFromOddOffsets(t *testing.T) {
	for _, from := range []int{-1, -7, math.MinInt} {
		mustBeFirst(t, parse(t, "a"), "aba", from, 0, 1, true)
		mustBeFirst(t, parse(t, "b"), "aba", from, 1, 2, true)
		mustBeFirst(t, parse(t, ""), "", from, 0, 0, true)
		mustBeFirst(t, parse(t, "c"), "aba", from, 0, 0, false)
	}
	for _, n := range []api.Node{regex.And(), regex.Cat(), one("a"), regex.Not(one("a"))} {
		for _, s := range []string{"", "aba"} {
			for _, from := range []int{len(s) + 1, len(s) + 9, math.MaxInt} {
				mustBeFirst(t, n, s, from, 0, 0, false)
			}
		}
	}
}

func TestFirstIsTheOneOfTheChapter(t *testing.T) {
	everywhere(t, func(n api.Node, s string, want table) {
		for from := -2; from <= len(s)+2; from++ {
			at, to, ok := want.first(from)
			mustBeFirst(t, n, s, from, at, to, ok)
		}
	})
}

// P4.3

func TestCut(t *testing.T) {
	comma := one(",")
	mustCut(t, comma, "ab", "ab")
	mustCut(t, comma, "a,b", "a", "b")
	mustCut(t, comma, ",ab", "", "ab")
	mustCut(t, comma, "ab,", "ab", "")
	mustCut(t, comma, "a,,b", "a", "", "b")
	mustCut(t, comma, ",", "", "")
	mustCut(t, comma, ",,", "", "", "")
	mustCut(t, comma, "", "")
	mustCut(t, comma, ",a,b,", "", "a", "b", "")
	mustCut(t, parse(t, ",+"), "a,,b,,,c", "a", "b", "c")
	mustCut(t, parse(t, "\\, *"), "a, b,  c", "a", "b", "c")
	// The longest match counts, from the first offset that has one, and its inside isn't searched again.
	mustCut(t, parse(t, "a|ab|abb"), "xabbabx", "x", "", "x")
	mustCut(t, parse(t, "ab|bcd"), "abcd", "", "cd")
	mustCut(t, parse(t, "aba"), "ababa", "", "ba")
	// A match of the empty text doesn't cut, and doesn't end the search.
	mustCut(t, parse(t, ""), "ab", "ab")
	mustCut(t, parse(t, ""), "", "")
	mustCut(t, parse(t, "b*"), "abba", "a", "a")
	mustCut(t, parse(t, "b*"), "", "")
	mustCut(t, parse(t, "b?"), "bba", "", "", "a")
	mustCut(t, parse(t, "(|ab)"), "aabb", "a", "b")
	mustCut(t, regex.And(), "ab", "", "")
	mustCut(t, regex.And(), "", "")
	mustCut(t, regex.Alt(), "ab", "ab")
	mustCut(t, regex.Alt(), "", "")
	mustCut(t, parse(t, "~(.*b.*)"), "aabab", "", "b", "b")
	mustCut(t, parse(t, `[\x00\x80-\xff]`), "a\x00b\xffc\x7f", "a", "b", "c\x7f")
}

func TestCutIsTheOneOfTheChapter(t *testing.T) {
	everywhere(t, func(n api.Node, s string, want table) {
		mustCut(t, n, s, want.cut(s, 0)...)
	})
}

// P4.4

func TestNotMatchesWhereItsKidDoesNot(t *testing.T) {
	everywhere(t, func(n api.Node, s string, want table) {
		for from := range want {
			ends := match.Ends(n, s, from)
			rest := slices.DeleteFunc(upTo(from, len(s)), func(to int) bool { return slices.Contains(ends, to) })
			mustEnd(t, regex.Not(n), s, from, rest)
			mustEnd(t, regex.Not(regex.Not(n)), s, from, ends)
		}
		if match.Whole(n, s) == match.Whole(regex.Not(n), s) {
			t.Errorf("%s and its Not answer the same of %q", pattern.Show(n), s)
		}
	})
}

// reversed is the bytes of a text, from its end.
func reversed(s string) string {
	b := []byte(s)
	slices.Reverse(b)
	return string(b)
}

func TestBackMatchesReversedTexts(t *testing.T) {
	everywhere(t, func(n api.Node, s string, want table) {
		back, text := regex.Back(n), reversed(s)
		if match.Whole(back, text) != match.Whole(n, s) {
			t.Errorf("%s and its Back answer differently of %q", pattern.Show(n), s)
		}
		for from := range want {
			for to := from; to <= len(s); to++ {
				here := slices.Contains(match.Ends(n, s, from), to)
				there := slices.Contains(match.Ends(back, text, len(s)-to), len(s)-from)
				if here != there {
					t.Errorf("%s from %d to %d of %q: %t, and its Back: %t", pattern.Show(n), from, to, s, here, there)
				}
			}
		}
	})
}

func TestNullIsMatchingTheEmptyText(t *testing.T) {
	for _, n := range patterns(t) {
		if match.Whole(n, "") != regex.Null(n) {
			t.Errorf("Whole(%s, \"\") isn't what Null tells", pattern.Show(n))
		}
	}
}
