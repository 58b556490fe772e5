package deriv_test

import (
	"math"
	"testing"

	"homograph/api"
	"homograph/byteset"
	"homograph/deriv"
	"homograph/drawn"
	"homograph/match"
	"homograph/pattern"
	"homograph/regex"
)

// P5.2

func mustBehind(t *testing.T, n api.Node, b uint8, want api.Node) {
	t.Helper()
	if got := deriv.Behind(n, b); !regex.Same(got, want) {
		t.Errorf("Behind(%s, %q) = %s %v, want %s %v", pattern.Show(n), b, pattern.Show(got), got, pattern.Show(want), want)
	}
}

// behindText is a pattern's text, bytes, and the text of what is behind each of them.
type behindText struct{ pattern, bytes, want string }

func mustBehindTexts(t *testing.T, l []behindText) {
	t.Helper()
	for _, c := range l {
		for i := range len(c.bytes) {
			mustBehind(t, parse(t, c.pattern), c.bytes[i], form(t, c.want))
		}
	}
}

func TestBehindOfASet(t *testing.T) {
	mustBehindTexts(t, []behindText{
		{"a", "a", "()"}, {"a", "bA\x00\xff", "[]"}, {"[a-c]", "abc", "()"}, {"[a-c]", "`d", "[]"}, {"[]", "a\x00", "[]"},
		{"[^]", "a\x00\n\x7f\xff", "()"}, {".", "\n", "[]"}, {".", "\x00\t\x7f\x80\xff", "()"},
	})
	for _, b := range []uint8{0, 10, 63, 64, 127, 128, 191, 192, 255} {
		only := byteset.Range(b, b)
		for other := range 256 {
			here, there := nothing, empty
			if other == int(b) {
				here, there = empty, nothing
			}
			mustBehind(t, regex.Set(only), uint8(other), here)
			mustBehind(t, regex.Set(byteset.Not(only)), uint8(other), there)
			mustBehind(t, regex.Not(regex.Set(only)), uint8(other), regex.Not(here))
		}
	}
}

func TestBehindOfACat(t *testing.T) {
	mustBehind(t, regex.Cat(), 'a', nothing)
	mustBehind(t, regex.Cat(one("a")), 'a', empty)
	mustBehind(t, regex.Cat(nothing, one("a")), 'a', nothing)
	mustBehind(t, regex.Cat(one("a"), nothing), 'a', nothing)
	mustBehind(t, regex.Cat(everything, one("a")), 'a', regex.Alt(empty, regex.Cat(everything, one("a"))))
	mustBehindTexts(t, []behindText{
		{"ab", "a", "b"}, {"ab", "bc", "[]"}, {"abc", "a", "bc"}, {"a(bc)(d)", "a", "bcd"}, {"[ab]c", "ab", "c"}, {"()ab", "a", "b"},
		// The first Kids match the empty text.
		{"a?b", "a", "b"}, {"a?b", "b", "()"}, {"a?b", "c", "[]"}, {"a*b*c", "a", "a*b*c"}, {"a*b*c", "b", "b*c"}, {"a*b*c", "c", "()"}, {"a*b*c", "d", "[]"},
		{"a?a?a", "a", "|a|a?a"}, {"a*a*a", "a", "|a*a|a*a*a"}, {"a?b?c?", "a", "b?c?"}, {"a?b?c?", "b", "c?"}, {"a?b?c?", "c", "()"},
		{"a*a", "a", "|a*a"}, {"a*ab", "a", "a*ab|b"}, {"(a|)(ab|)c", "a", "(|ab)c|bc"}, {"(a|)(ab|)c", "c", "()"}, {"()()a", "a", "()"},
		{"(|ab)(|ac)(|ad)", "a", "b(|ac)(|ad)|c(|ad)|d"}, {"(a?b?)(b?c)", "b", "b?c|c"}, {"a?(a[])b", "a", "[]"}, {"a?(b[]|a)", "a", "|a"},
		// The first Kid that doesn't is the last one that counts.
		{"a?ba", "a", "ba"}, {"a+a", "a", "a*a"}, {"(a|b)a?", "a", "a?"}, {"~ab", "a", "~()b"}, {"~()a", "a", "~[]a"}, {"~ab", "b", "|~[]b"},
		// The rest comes in its normal form.
		{"a((b|c)(d{1}))", "a", "[bc]d"}, {"a(b*)*", "a", "b*"}, {"a(b&c)", "a", "[]"}, {"a~~b", "a", "b"},
	})
}

func TestBehindOfAnAlt(t *testing.T) {
	mustBehind(t, regex.Alt(), 'a', nothing)
	mustBehind(t, regex.Alt(regex.Lit("ab")), 'a', one("b"))
	mustBehindTexts(t, []behindText{
		{"ab|ac", "a", "[bc]"}, {"ab|ac", "bc", "[]"}, {"ab|cd", "a", "b"}, {"ab|cd", "c", "d"}, {"a|ab|abb", "a", "|b|bb"}, {"a|b", "ab", "()"}, {"a|b", "c", "[]"},
		{"ad|ac|ab|a", "a", "|[b-d]"}, {"aef|acd|(acd|aab)", "a", "ab|cd|ef"},
		// Kids become the same, nothing or everything behind the byte only.
		{"[ab]x|[ac]x", "a", "x"}, {"[ab]x|[ac]x", "bc", "x"}, {"abc|a(b)(c)|ac", "a", "bc|c"}, {"a(bc)*|a(bc)*a*", "a", "(bc)*|(bc)*a*"},
		{"~(ab)|cd", "c", "~[]"}, {"~(ab)|cd", "a", "~b"}, {"~(ab)|acd", "a", "cd|~b"}, {"ab|(cd&ce)|a", "c", "[]"}, {"a~[]|ab", "a", "~[]"}, {"~a|~b", "ab", "~[]"},
	})
}

func TestBehindOfAnAnd(t *testing.T) {
	mustBehind(t, regex.And(), 'a', everything)
	mustBehind(t, regex.And(regex.Lit("ab")), 'a', one("b"))
	mustBehindTexts(t, []behindText{
		{"a*&b*", "ab", "[]"}, {"[ab]*&[bc]*", "b", "[ab]*&[bc]*"}, {"[ab]*&[bc]*", "ac", "[]"}, {"ab&a.", "a", "b"}, {"ad*&ac*&ab*", "a", "b*&c*&d*"},
		{"a&[ab]", "a", "()"}, {"a&[ab]", "b", "[]"}, {"a&a*", "a", "&a*"},
		// Kids become the same, nothing or everything behind the byte only.
		{"ab&ac", "a", "[]"}, {"~(ab)&cd", "c", "d"}, {"~(ab)&~(ac)", "c", "~[]"}, {"~(ab)&~(ac)", "a", "~b&~c"}, {"[ab]x*&[ac]x*", "a", "x*"},
		{"(ab|ac)&(ac|ad)", "a", "c"}, {"~a&~b", "a", "~()"}, {"~a&~b", "c", "~[]"},
	})
}

func TestBehindOfANot(t *testing.T) {
	mustBehind(t, regex.Not(nothing), 'a', everything)
	mustBehind(t, regex.Not(everything), 'a', nothing)
	mustBehind(t, regex.Not(regex.And()), 'a', nothing)
	mustBehindTexts(t, []behindText{
		{"~a", "a", "~()"}, {"~a", "b", "~[]"}, {"~()", "a", "~[]"}, {"~[]", "a", "~[]"}, {"~(ab)", "a", "~b"}, {"~(ab)", "b", "~[]"},
		{"~([^]*)", "a\x00\n\xff", "~[^]*"},
		// In a Not, in a Cat and in a Rep.
		{"~~a", "a", "()"}, {"~~a", "b", "[]"}, {"~~~a", "a", "~()"}, {"~(a~b)", "a", "b"}, {"~(a~b)", "b", "~[]"},
		{"a~b", "a", "~b"}, {"~a~b", "a", "~[]"}, {"~a~b", "b", "~()|~[]~b"}, {"~a~b", "c", "~[]"},
		{"(~a)*", "a", "~()(~a)*"}, {"(~a)*", "b", "~[](~a)*"}, {"(~a){2}", "a", "~()~a"}, {"(~(ab))?", "a", "~b"},
	})
}

func TestBehindOfARep(t *testing.T) {
	a := one("a")
	for _, most := range []int{-1, -2, -32, math.MinInt} {
		mustBehind(t, regex.Rep(a, 0, most), 'a', regex.Rep(a, 0, -1))
		mustBehind(t, regex.Rep(a, 1, most), 'a', regex.Rep(a, 0, -1))
		mustBehind(t, regex.Rep(a, 2, most), 'a', regex.Rep(a, 1, -1))
		mustBehind(t, regex.Rep(a, 32, most), 'a', regex.Rep(a, 31, -1))
		mustBehind(t, regex.Rep(a, 0, most), 'b', nothing)
	}
	mustBehindTexts(t, []behindText{
		{"a*", "a", "a*"}, {"a*", "b", "[]"}, {"a+", "a", "a*"}, {"a{2,}", "a", "a+"}, {"a{3,}", "a", "a{2,}"},
		{"a{0}", "ab", "[]"}, {"(ab){0}", "a", "[]"}, {"[]{0}", "a", "[]"}, {"()*", "a", "[]"}, {"(){3}", "a", "[]"}, {"[]*", "a", "[]"}, {"[]+", "a", "[]"},
		{"a?", "a", "()"}, {"a?", "b", "[]"}, {"a{1}", "a", "()"}, {"a{2}", "a", "a"}, {"a{3}", "a", "a{2}"}, {"a{32}", "a", "a{31}"}, {"a{0,2}", "a", "a?"}, {"a{1,2}", "a", "a?"},
		{"a{0,3}", "a", "a{0,2}"}, {"a{1,3}", "a", "a{0,2}"}, {"a{2,3}", "a", "a{1,2}"}, {"a{3,5}", "a", "a{2,4}"}, {"a{0,32}", "a", "a{0,31}"},
		{"(ab)*", "a", "b(ab)*"}, {"(ab)+", "a", "b(ab)*"}, {"(ab){2}", "a", "bab"}, {"(ab){1}", "a", "b"}, {"(ab){3}", "a", "b(ab){2}"}, {"(ab)?", "a", "b"},
		{"(a|b)*", "ab", "[ab]*"}, {"(ab|ac){2}", "a", "[bc](ab|ac)"}, {"(a?b)*", "a", "b(a?b)*"}, {"(a?b)*", "b", "(a?b)*"}, {"(a*b?)*", "a", "a*b?(a*b?)*"}, {"(a*b?)*", "b", "(a*b?)*"},
		{"(a?){3}", "a", "a?{2}"}, {"(a?)+", "a", "a?*"},
		// The derivative is that of the pattern itself, not of its normal form.
		{"(a*)*", "a", "a*a*"}, {"((a*)*)*", "a", "a*a*a*"}, {"(a*){1}", "a", "a*"}, {"(a*)+", "a", "a*a*"}, {"(a+)*", "a", "a*a+*"}, {"(a|a){2}", "a", "a"},
	})
	mustBehind(t, deriv.Norm(parse(t, "(a*)*")), 'a', parse(t, "a*"))
}

func TestBehindIsTheOneOfTheChapter(t *testing.T) {
	for _, n := range patterns(t) {
		for _, b := range []uint8{'a', 'b', 'c', 0, 10, 127, 255} {
			mustBehind(t, n, b, behindOf(n, b))
		}
	}
}

func TestBehindTellsAllBytesApart(t *testing.T) {
	for _, s := range []string{`[\x00a]b|[^\x00]c`, `.a|\nb`, `(\x7fx|[\x80-\xff]y)*`, `[a-m]{2}|[h-z]{3}`, `~(\xff*)`, `\x00?\xff?.`} {
		n := parse(t, s)
		for b := range 256 {
			mustBehind(t, n, uint8(b), behindOf(n, uint8(b)))
		}
	}
}

func mustAll(t *testing.T, n api.Node, s string, want api.Node) {
	t.Helper()
	if got := deriv.All(n, s); !regex.Same(got, want) {
		t.Errorf("All(%.200s, %.40q) = %.200s %.200v, want %.200s %.200v", pattern.Show(n), s, pattern.Show(got), got, pattern.Show(want), want)
	}
}

func TestAll(t *testing.T) {
	for _, c := range []struct{ pattern, text, want string }{
		{"(a|b)|(cd)", "", "[ab]|cd"}, {"[]", "", "[]"}, {"~~a", "", "a"}, {"(a*)*", "", "a*"}, {"a{1}", "", "a"},
		{"abc", "a", "bc"}, {"abc", "ab", "c"}, {"abc", "abc", "()"}, {"abc", "abcd", "[]"}, {"abc", "b", "[]"}, {"abc", "bbc", "[]"},
		{"(ab)*", "a", "b(ab)*"}, {"(ab)*", "abab", "(ab)*"}, {"a{3,5}", "aaa", "a{0,2}"}, {"a{3,5}", "aaaaa", "()"}, {"a{3,5}", "aaaaaa", "[]"},
		{"ab|ac|bd", "a", "[bc]"}, {"~(ab)", "ab", "~()"}, {"~(ab)", "aba", "~[]"}, {"a?a?a", "aa", "|a"},
		// From the normal form on.
		{"(a*)*", "a", "a*"}, {"(a*)*", "aaa", "a*"}, {"((a*)*)*b", "aa", "a*b"},
		{`\x00\xff\n`, "\x00\xff", `\n`}, {"[^]{3}", "\x7f\x80", "[^]"}, {`\xc3\xa9`, "\xc3", `\xa9`}, {`\xc3\xa9`, "é", "()"},
	} {
		mustAll(t, parse(t, c.pattern), c.text, form(t, c.want))
	}
}

func TestAllIsBehindForEachByte(t *testing.T) {
	l := []string{"", "a", "b", "ab", "ba", "aab", "abc", "bca", "abab", "aaaaa", "\x00\n\x7f\xff"}
	for _, n := range patterns(t) {
		for _, s := range l {
			want, wantOf := deriv.Norm(n), normalOf(n)
			for k := range len(s) {
				want, wantOf = deriv.Behind(want, s[k]), behindOf(wantOf, s[k])
			}
			mustAll(t, n, s, want)
			mustAll(t, n, s, wantOf)
		}
	}
}

func TestWhole(t *testing.T) {
	for _, c := range []struct {
		pattern, text string
		want          bool
	}{
		{"", "", true}, {"", "a", false}, {"a", "", false}, {"a", "a", true}, {"a", "aa", false}, {"aa", "a", false},
		{"a*", "", true}, {"a*", "aaa", true}, {"a*", "aab", false}, {"a*", "baa", false}, {"ab|ac", "ac", true}, {"ab|ac", "ad", false},
		{"[]", "", false}, {"[]", "a", false}, {"[^]*", "", true}, {"[^]*", "\x00\n\x7f\xff", true}, {".*", "a\n", false},
		{"~a", "", true}, {"~a", "a", false}, {"~a", "aa", true}, {"~()", "", false}, {"~(.*b.*)", "aaca", true}, {"~(.*b.*)", "aaba", false},
		{"a{3}", "aaa", true}, {"a{3}", "aa", false}, {"a{3}", "aaaa", false}, {"a{2,}", "a", false}, {"a{2,}", "aaaaa", true},
		{"(aa)*&(aaa)*", "aaaaaa", true}, {"(aa)*&(aaa)*", "aaaa", false}, {"(~a)*", "a", false}, {"(~a)*", "ab", true}, {"a~b", "ab", false}, {"a~b", "a", true},
		{`\xc3\xa9`, "é", true}, {`\xc3\xa9`, "\xc3", false}, {`\xc3.`, "é", true}, {`\xc3`, "é", false},
	} {
		if got := deriv.Whole(parse(t, c.pattern), c.text); got != c.want {
			t.Errorf("Whole(%s, %q) = %t", c.pattern, c.text, got)
		}
	}
}

func TestWholeIsWhatMatchTells(t *testing.T) {
	l := drawn.Texts("abc", 4)
	for _, n := range patterns(t) {
		for _, s := range l {
			if got := deriv.Whole(n, s); got != match.Whole(n, s) {
				t.Errorf("Whole(%s, %q) = %t", pattern.Show(n), s, got)
			}
		}
	}
}

// P5.3

func TestBehindMatchesWhatFollowsTheByte(t *testing.T) {
	l := drawn.Texts("abc", 3)
	for _, n := range patterns(t) {
		for _, b := range []byte("abcd\xff") {
			got := deriv.Behind(n, b)
			for _, s := range l {
				if match.Whole(got, s) != match.Whole(n, string([]byte{b})+s) {
					t.Errorf("Behind(%s, %q) = %s is wrong of %q", pattern.Show(n), b, pattern.Show(got), s)
				}
			}
		}
	}
}
