package deriv_test

import (
	"math"
	"slices"
	"testing"

	"homograph/api"
	"homograph/deriv"
	"homograph/drawn"
	"homograph/match"
	"homograph/pattern"
	"homograph/regex"
)

// P5.1

func mustNorm(t *testing.T, n, want api.Node) {
	t.Helper()
	if got := deriv.Norm(n); !regex.Same(got, want) {
		t.Errorf("Norm(%s) = %s %v, want %s %v", pattern.Show(n), pattern.Show(got), got, pattern.Show(want), want)
	}
}

// mustNormTexts takes pairs: a pattern's text, and that of its normal form.
func mustNormTexts(t *testing.T, pairs [][2]string) {
	t.Helper()
	for _, p := range pairs {
		mustNorm(t, parse(t, p[0]), form(t, p[1]))
	}
}

func TestNormOfASet(t *testing.T) {
	mustNormTexts(t, [][2]string{
		{"[]", "[]"}, {"[^]", "[^]"}, {".", "."}, {"a", "a"}, {"[ab]", "[ab]"},
		{`\x00`, `\x00`}, {`\n`, `\n`}, {`\x7f`, `\x7f`}, {`\xff`, `\xff`}, {`[^\xff]`, `[^\xff]`},
	})
	mustNorm(t, one(""), nothing)
}

func TestNormOfACat(t *testing.T) {
	mustNorm(t, regex.Cat(), empty)
	mustNorm(t, regex.Cat(one("a")), one("a"))
	mustNorm(t, regex.Cat(regex.Cat(regex.Cat(one("a")))), one("a"))
	mustNorm(t, regex.Cat(nothing), nothing)
	mustNorm(t, regex.Cat(everything), everything)
	mustNorm(t, regex.Cat(everything, everything), regex.Cat(everything, everything))
	mustNorm(t, regex.Cat(one("a"), regex.And(), one("b")), regex.Cat(one("a"), everything, one("b")))
	mustNormTexts(t, [][2]string{
		{"ab", "ab"}, {"a(bc)d", "abcd"}, {"a(b(c(d)(e)))f", "abcdef"}, {"((ab)c)((d)e)", "abcde"}, {"((ab)(ab))(ab)", "ababab"},
		{"()()", "()"}, {"()a", "a"}, {"a()", "a"}, {"a()b", "ab"}, {"a(()())b(())", "ab"}, {"a(b{0})c", "ac"},
		{"[]a", "[]"}, {"a[]", "[]"}, {"a[]b", "[]"}, {"a(b&c)d", "[]"}, {"a(b(c[]))d", "[]"}, {"~[][]", "[]"},
		{"a|b", "[ab]"}, {"(a|b)c", "[ab]c"}, {"(ab|ab)c", "abc"}, {"(ab|cd)e", "(ab|cd)e"}, {"(ab){1}c", "abc"}, {"(ab){2}c", "(ab){2}c"},
		{"a~b", "a~b"}, {"~(ab)c", "~(ab)c"}, {"a~~(bc)d", "abcd"}, {"aa", "aa"},
	})
}

func TestNormOfAnAlt(t *testing.T) {
	mustNorm(t, regex.Alt(), nothing)
	mustNorm(t, regex.Alt(one("a")), one("a"))
	mustNorm(t, regex.Alt(regex.Cat()), empty)
	mustNorm(t, regex.Alt(regex.Alt(), regex.Alt(regex.Alt())), nothing)
	mustNorm(t, regex.Alt(everything), everything)
	mustNorm(t, regex.Alt(regex.Alt(regex.Lit("ab"))), regex.Lit("ab"))
	mustNorm(t, regex.Alt(regex.Lit("ab"), regex.And()), everything)
	mustNormTexts(t, [][2]string{
		{"a|b", "[ab]"}, {"a|(b|(c|d))|e", "[a-e]"}, {"[]|[]", "[]"}, {"[ab]|[^b]", "[^]"}, {"[a-m]|[^a-m]|a", "[^]"},
		{"ab|(cd|(a|ef))|b", "[ab]|ab|cd|ef"}, {"(ab|cd)|(ef|gh)", "ab|cd|ef|gh"}, {"((ef|ab)|(gh|cd))|ab", "ab|cd|ef|gh"},
		{"ab|[]", "ab"}, {"[]|ab|[]|cd", "ab|cd"}, {"ab|(c&d)", "ab"},
		{"ab|~[]", "~[]"}, {"~[]|a", "~[]"}, {"ab|(cd|~[])", "~[]"}, {"ab|~(c&d)", "~[]"}, {"a|~~[]", "a"},
		{"a|", "|a"}, {"|", "()"}, {"ab||cd|", "|ab|cd"}, {"ab|c{0}", "|ab"},
		{"ab|ab", "ab"}, {"ab|cd|ab", "ab|cd"}, {"a|a", "a"}, {"a*|b*|a*", "a*|b*"}, {"~a|~a", "~a"},
		{"ab|(a)(b)|a{1}b|(a(b))|~~(ab)", "ab"}, {"(a|b)c|[ab]c|(b|a)c", "[ab]c"}, {"(ab|cd)e|(cd|ab)e", "(ab|cd)e"},
		{"a&b|cd", "cd"}, {"a*&b*|cd", "a*&b*|cd"}, {"a*|a+|a", "a|a*|a+"}, {"(a*)*|a*", "a*"},
	})
}

func TestNormOfAnAnd(t *testing.T) {
	mustNorm(t, regex.And(), everything)
	mustNorm(t, regex.And(one("a")), one("a"))
	mustNorm(t, regex.And(regex.Cat()), empty)
	mustNorm(t, regex.And(regex.And(), regex.And(regex.And())), everything)
	mustNorm(t, regex.And(nothing), nothing)
	mustNorm(t, regex.And(everything), everything)
	mustNorm(t, regex.And(everything, everything), everything)
	mustNorm(t, regex.And(everything, nothing), nothing)
	mustNorm(t, regex.And(regex.And(regex.Lit("ab"), regex.And())), regex.Lit("ab"))
	mustNormTexts(t, [][2]string{
		{"[ab]&[bc]", "b"}, {"[a-e]&([b-f]&([c-g]&[^d]))", "[ce]"}, {"[^]&[^]", "[^]"}, {"[^]&a", "a"},
		{"a&b", "[]"}, {"[ab]&[bc]&[cd]", "[]"}, {"[ab]&c*&[cd]", "[]"}, {"a&[]", "[]"},
		{"b*&(a*&(d*&c*))", "a*&b*&c*&d*"}, {"(d*&a*)&(c*&b*)", "a*&b*&c*&d*"}, {"b*&[ab]&a*&[bc]", "a*&b&b*"},
		{"ab&[]", "[]"}, {"a*&(b*&[])", "[]"}, {"a*&(b&c)", "[]"}, {"a*&b[]", "[]"},
		{"ab&~[]", "ab"}, {"~[]&ab&~[]&cd", "ab&cd"}, {"~[]&a", "a"}, {"a*&~(b&c)", "a*"},
		{"a*&()", "&a*"}, {"&", "()"}, {"()&a*&b{0}", "&a*"}, {"&a", "&a"},
		{"ab&ab", "ab"}, {"a*&b*&a*", "a*&b*"}, {"a&a", "a"}, {"~a&~a", "~a"},
		{"ab&(a)(b)&a{1}b", "ab"}, {"(a|b)*&[ab]*", "[ab]*"}, {"(a*&b*)c&(b*&a*)c", "(a*&b*)c"},
		{"(ab|cd)&ef", "(ab|cd)&ef"}, {"ef&(ab|cd)", "(ab|cd)&ef"},
	})
}

func TestNormSortsByTexts(t *testing.T) {
	// It is the bytes of the texts that count, not those for which they stand.
	mustNormTexts(t, [][2]string{
		{`ab|\xffb|Zb|\nb|\x00b|[xy]b|zb`, `Zb|[xy]b|\nb|\x00b|\xffb|ab|zb`},
		{`~b|\(b|0b|!b|\~b| b`, ` b|!b|0b|\(b|\~b|~b`},
		{"abc|ab|a*|abcd|ab*|(ab)*", "(ab)*|a*|ab|ab*|abc|abcd"},
		{"b*&~b&(ab|ba)&(b*)a", "(ab|ba)&b*&b*a&~b"},
		{"a{2,3}|a{2}|a{2,}|a{10}|a+|a?", "a+|a?|a{10}|a{2,3}|a{2,}|a{2}"},
	})
	for _, op := range []func(...api.Node) api.Node{regex.Alt, regex.And} {
		first, second := differing("a", "b")
		a, b := parse(t, first), parse(t, second)
		mustNorm(t, op(b, a), op(a, b))
		mustNorm(t, op(b, a, b, a), op(a, b))
		short, long := differing("", "a")
		mustNorm(t, op(parse(t, long), parse(t, short)), op(parse(t, short), parse(t, long)))
	}
}

func TestNormOfANot(t *testing.T) {
	mustNorm(t, regex.Not(nothing), everything)
	mustNorm(t, regex.Not(everything), nothing)
	mustNorm(t, regex.Not(regex.And()), nothing)
	mustNorm(t, regex.Not(empty), regex.Not(empty))
	mustNormTexts(t, [][2]string{
		{"~a", "~a"}, {"~~a", "a"}, {"~~~a", "~a"}, {"~~~~(ab)", "ab"}, {"~(~a|~a)", "a"}, {"~(~a{1})", "a"}, {"~(~a())", "a"},
		{"~[]", "~[]"}, {"~~[]", "[]"}, {"~(a&b)", "~[]"}, {"~(~a&~b)", "~(~a&~b)"},
		{"~(b|a)", "~[ab]"}, {"~~(a|b)*", "[ab]*"}, {"(~~a)*", "a*"}, {"(~~a*)*", "a*"}, {"a~~(bc)", "abc"}, {"(~a)*", "(~a)*"}, {"(~[])*", "(~[])*"},
	})
}

func TestNormOfARep(t *testing.T) {
	a := one("a")
	for _, most := range []int{-1, -2, -32, math.MinInt} {
		mustNorm(t, regex.Rep(a, 0, most), regex.Rep(a, 0, -1))
		mustNorm(t, regex.Rep(a, 1, most), regex.Rep(a, 1, -1))
		mustNorm(t, regex.Rep(a, 32, most), regex.Rep(a, 32, -1))
		mustNorm(t, regex.Rep(regex.Rep(a, 0, most), 0, -7), regex.Rep(a, 0, -1))
		mustNorm(t, regex.Rep(regex.Rep(a, 0, -7), 0, most), regex.Rep(a, 0, -1))
		mustNorm(t, regex.Rep(regex.Rep(a, 1, most), 0, most), regex.Rep(regex.Rep(a, 1, -1), 0, -1))
	}
	mustNormTexts(t, [][2]string{
		// Max is 0, or the Kid is empty.
		{"a{0}", "()"}, {"(ab){0}", "()"}, {"[]{0}", "()"}, {"~[]{0}", "~()"}, {"(~[]){0}", "()"},
		{"()*", "()"}, {"()+", "()"}, {"()?", "()"}, {"(){32}", "()"}, {"(){3,5}", "()"}, {"(a{0})+", "()"}, {"(||)*", "()"},
		// The Kid is nothing.
		{"[]*", "()"}, {"[]?", "()"}, {"[]{0,5}", "()"}, {"(a&b)*", "()"},
		{"[]+", "[]"}, {"[]{1}", "[]"}, {"[]{2,}", "[]"}, {"[]{3,5}", "[]"}, {"(a[])+", "[]"},
		// Once.
		{"a{1}", "a"}, {"(ab){1}", "ab"}, {"a{1}{1}{1}", "a"}, {"(a*){1}", "a*"}, {"(a{2}){1}", "a{2}"}, {"(~a){1}", "~a"},
		// A Rep in a Rep.
		{"(a*)*", "a*"}, {"((a*)*)*", "a*"}, {"(a*){1}*", "a*"}, {"((ab)*|(ab)*)*", "(ab)*"},
		{"a+*", "a+*"}, {"a*+", "a*+"}, {"a?*", "a?*"}, {"a*?", "a*?"}, {"a*{0,3}", "a*{0,3}"}, {"a{0,3}*", "a{0,3}*"}, {"a{2}{3}", "a{2}{3}"}, {"a+*+", "a+*+"}, {"a**?*", "a*?*"},
		// All else stays, with the normal form of its Kid.
		{"a*", "a*"}, {"a+", "a+"}, {"a?", "a?"}, {"a{2}", "a{2}"}, {"a{2,}", "a{2,}"}, {"a{1,2}", "a{1,2}"}, {"a{0,32}", "a{0,32}"}, {"a{32}", "a{32}"},
		{"(b|a)*", "[ab]*"}, {"(a(bc))?", "(abc)?"}, {"(|a)*", "(|a)*"}, {"(~[])+", "(~[])+"}, {"[^]*", "[^]*"},
	})
	mustNorm(t, regex.Rep(regex.And(), 0, -1), regex.Rep(everything, 0, -1))
}

func TestNormIsTheOneOfTheChapter(t *testing.T) {
	for _, n := range patterns(t) {
		mustNorm(t, n, normalOf(n))
	}
}

// What a kind doesn't use may be anything that Check lets pass, and isn't in a normal form.
func TestNormHasNothingBesidesItsKind(t *testing.T) {
	odd := func(n api.Node) api.Node {
		n.Min, n.Max = 2, 3
		if n.Op != api.OpSet {
			n.Set = one("xyz").Set
		}
		return n
	}
	for _, c := range [][2]api.Node{
		{odd(one("a")), one("a")},
		{odd(one("")), nothing},
		{odd(regex.Cat()), empty},
		{odd(regex.Alt()), nothing},
		{odd(regex.And()), everything},
		{odd(regex.Not(odd(regex.Alt()))), everything},
		{odd(regex.Cat(odd(one("a")), one("b"))), regex.Lit("ab")},
		{odd(regex.Alt(odd(regex.Lit("ab")), regex.Lit("cd"), regex.Lit("ab"))), regex.Alt(regex.Lit("ab"), regex.Lit("cd"))},
		{odd(regex.And(odd(regex.Lit("ab")), regex.Lit("cd"))), regex.And(regex.Lit("ab"), regex.Lit("cd"))},
		{odd(regex.Not(odd(one("a")))), regex.Not(one("a"))},
		{odd(regex.Rep(odd(one("a")), 0, 0)), regex.Rep(one("a"), 2, 3)},
	} {
		if regex.Check(c[0]) != api.OK {
			t.Fatalf("%v isn't valid", c[0])
		}
		mustNorm(t, c[0], c[1])
		for _, b := range []byte("axc") {
			if got, want := deriv.Behind(c[0], b), behindOf(c[0], b); !regex.Same(got, want) {
				t.Errorf("Behind(%v, %q) = %v, want %v", c[0], b, got, want)
			}
		}
	}
}

func TestDead(t *testing.T) {
	if !deriv.Dead(regex.Alt()) || !deriv.Dead(api.Node{Op: api.OpAlt, Kids: []api.Node{}}) {
		t.Error("an Alt without Kids isn't dead")
	}
	for _, n := range []api.Node{
		{}, one(""), one("a"), regex.Cat(), regex.And(), regex.Not(regex.Alt()), regex.Not(regex.And()),
		regex.Alt(regex.Alt()), regex.Alt(one("")), regex.Cat(regex.Alt()), regex.And(regex.Alt()), regex.Rep(regex.Alt(), 1, -1),
	} {
		if deriv.Dead(n) {
			t.Errorf("%v is dead", n)
		}
	}
	for _, n := range []api.Node{one(""), regex.Cat(regex.Alt()), regex.Rep(regex.Alt(), 1, -1), regex.Not(regex.And()), parse(t, "a&b")} {
		if !deriv.Dead(deriv.Norm(n)) {
			t.Errorf("the normal form of %v isn't dead", n)
		}
	}
}

// P5.3

func TestNormMatchesWhatThePatternMatches(t *testing.T) {
	l := drawn.Texts("abc", 4)
	for _, n := range patterns(t) {
		got := deriv.Norm(n)
		for _, s := range l {
			if match.Whole(got, s) != match.Whole(n, s) {
				t.Errorf("%s and its normal form %s answer differently of %q", pattern.Show(n), pattern.Show(got), s)
			}
		}
	}
}

func TestNormOfANormalFormIsTheSame(t *testing.T) {
	for _, n := range patterns(t) {
		got := deriv.Norm(n)
		mustNorm(t, got, got)
		for _, b := range []byte("abcd") {
			got := deriv.Behind(n, b)
			mustNorm(t, got, got)
		}
	}
}

// A text is enough to recognize a normal form.
func TestNormalFormsOfOneTextAreTheSame(t *testing.T) {
	forms := map[string]api.Node{}
	for _, n := range patterns(t) {
		for _, got := range []api.Node{deriv.Norm(n), deriv.Behind(n, 'a'), deriv.Behind(n, 'b')} {
			text := pattern.Show(got)
			if other, ok := forms[text]; ok && !regex.Same(got, other) {
				t.Errorf("%v and %v have the same text %s", got, other, text)
			}
			forms[text] = got
			if slices.Contains([]string{"[^]*", "[]"}, text) && got.Op != api.OpRep && !deriv.Dead(got) {
				t.Errorf("%v is printed as %s", got, text)
			}
		}
	}
}
