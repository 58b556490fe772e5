package pattern_test

import (
	"slices"
	"strconv"
	"strings"
	"testing"

	"homograph/api"
	"homograph/byteset"
	"homograph/pattern"
	"homograph/regex"
)

// source makes numbers that are the same in each run.
type source uint64

func (s *source) below(n int) int {
	*s = *s*6364136223846793005 + 1442695040888963407
	return int(uint64(*s) >> 33 % uint64(n))
}

func (s *source) pick(l []string) string { return l[s.below(len(l))] }

// one is a Set of the bytes of a text.
func one(s string) api.Node { return regex.Set(byteset.Of(s)) }

func isZero(n api.Node) bool { return regex.Same(n, api.Node{}) }

// mustParse holds that a text stands for a pattern.
func mustParse(t *testing.T, s string, want api.Node) {
	t.Helper()
	if got, e, at := pattern.Parse(s); e != api.OK || at != 0 || !regex.Same(got, want) {
		t.Errorf("Parse(%q) = %v, %d, %d, want %v", s, got, e, at, want)
	}
}

// mustFail holds that a text is no pattern, and where its problem is.
func mustFail(t *testing.T, s string, want int) {
	t.Helper()
	if got, e, at := pattern.Parse(s); e != api.ErrPattern || at != want || !isZero(got) {
		t.Errorf("Parse(%q) = %v, %d, %d, want ErrPattern, %d", s, got, e, at, want)
	}
}

// everyByte are all bytes, as texts of one byte.
func everyByte() []string {
	var l []string
	for b := range 256 {
		l = append(l, string([]byte{byte(b)}))
	}
	return l
}

// P3.1: what is a pattern

func TestParseOfLists(t *testing.T) {
	a, b, c, empty := one("a"), one("b"), one("c"), regex.Cat()
	for s, want := range map[string]api.Node{
		"":          empty,
		"a":         a,
		"ab":        regex.Cat(a, b),
		"abc":       regex.Cat(a, b, c),
		"a|b":       regex.Alt(a, b),
		"a|b|c":     regex.Alt(a, b, c),
		"a&b":       regex.And(a, b),
		"a&b&c":     regex.And(a, b, c),
		"a|b*":      regex.Alt(a, regex.Rep(b, 0, -1)),
		"a|b&c":     regex.Alt(a, regex.And(b, c)),
		"a&b|c":     regex.Alt(regex.And(a, b), c),
		"ab|c":      regex.Alt(regex.Cat(a, b), c),
		"a&bc":      regex.And(a, regex.Cat(b, c)),
		"|":         regex.Alt(empty, empty),
		"||":        regex.Alt(empty, empty, empty),
		"a|":        regex.Alt(a, empty),
		"|a":        regex.Alt(empty, a),
		"&":         regex.And(empty, empty),
		"a&":        regex.And(a, empty),
		"&a":        regex.And(empty, a),
		"|&":        regex.Alt(empty, regex.And(empty, empty)),
		"()":        empty,
		"(())":      empty,
		"(a)":       a,
		"((a))":     a,
		"()()":      regex.Cat(empty, empty),
		"a()":       regex.Cat(a, empty),
		"(a)(b)":    regex.Cat(a, b),
		"(ab)c":     regex.Cat(regex.Cat(a, b), c),
		"a(bc)":     regex.Cat(a, regex.Cat(b, c)),
		"(a|b)|c":   regex.Alt(regex.Alt(a, b), c),
		"a|(b|c)":   regex.Alt(a, regex.Alt(b, c)),
		"(a&b)&c":   regex.And(regex.And(a, b), c),
		"(a|b)&c":   regex.And(regex.Alt(a, b), c),
		"a(b|c)":    regex.Cat(a, regex.Alt(b, c)),
		"(a|b)":     regex.Alt(a, b),
		"(|)":       regex.Alt(empty, empty),
		"((a|b)&c)": regex.And(regex.Alt(a, b), c),
	} {
		mustParse(t, s, want)
	}
}

func TestParseOfItems(t *testing.T) {
	a, b, empty := one("a"), one("b"), regex.Cat()
	star := func(n api.Node) api.Node { return regex.Rep(n, 0, -1) }
	for s, want := range map[string]api.Node{
		"~a":      regex.Not(a),
		"~~~a":    regex.Not(regex.Not(regex.Not(a))),
		"~ab":     regex.Cat(regex.Not(a), b),
		"a~b":     regex.Cat(a, regex.Not(b)),
		"~a~b":    regex.Cat(regex.Not(a), regex.Not(b)),
		"~a|b":    regex.Alt(regex.Not(a), b),
		"~a&~b":   regex.And(regex.Not(a), regex.Not(b)),
		"~(ab)":   regex.Not(regex.Cat(a, b)),
		"~()":     regex.Not(empty),
		"~a*":     regex.Not(star(a)),
		"~~a*+":   regex.Not(regex.Not(regex.Rep(star(a), 1, -1))),
		"(~a)*":   star(regex.Not(a)),
		"~(~a)*":  regex.Not(star(regex.Not(a))),
		"a*":      star(a),
		"a+":      regex.Rep(a, 1, -1),
		"a?":      regex.Rep(a, 0, 1),
		"a*+?":    regex.Rep(regex.Rep(star(a), 1, -1), 0, 1),
		"a{2}{3}": regex.Rep(regex.Rep(a, 2, 2), 3, 3),
		"ab*":     regex.Cat(a, star(b)),
		"(ab)*":   star(regex.Cat(a, b)),
		"(a|b)+":  regex.Rep(regex.Alt(a, b), 1, -1),
		"()*":     star(empty),
		"(a*)*":   star(star(a)),
		"a*b":     regex.Cat(star(a), b),
		"[ab]?":   regex.Rep(one("ab"), 0, 1),
		`\**`:     star(one("*")),
		".{2,3}":  regex.Rep(regex.Set(byteset.Not(byteset.Of("\n"))), 2, 3),
	} {
		mustParse(t, s, want)
	}
}

func TestParseOfCounts(t *testing.T) {
	a := one("a")
	spellings := func(n int) []string {
		if n < 10 {
			return []string{strconv.Itoa(n), "0" + strconv.Itoa(n)}
		}
		return []string{strconv.Itoa(n)}
	}
	for m := range 33 {
		for _, first := range spellings(m) {
			mustParse(t, "a{"+first+"}", regex.Rep(a, m, m))
			mustParse(t, "a{"+first+",}", regex.Rep(a, m, -1))
			for n := range 33 {
				for _, second := range spellings(n) {
					s := "a{" + first + "," + second + "}"
					if n < m {
						mustFail(t, s, 2)
					} else {
						mustParse(t, s, regex.Rep(a, m, n))
					}
				}
			}
		}
	}
}

func TestParseOfBytesAndEscapes(t *testing.T) {
	for b, s := range everyByte() {
		if b >= 32 && b <= 126 && !strings.Contains(`()[]{}|&*+?.~\/`, s) {
			mustParse(t, s, one(s))
		} else if !strings.Contains(`([|&.~`, s) {
			// What is left out here may begin a pattern.
			mustFail(t, s, 0)
			mustFail(t, "ab(c|"+s+"\x00", map[bool]int{true: 6, false: 5}[s == ")"])
		}
		switch {
		case s == "n":
			mustParse(t, `\n`, one("\n"))
		case s == "t":
			mustParse(t, `\t`, one("\t"))
		case s == "r":
			mustParse(t, `\r`, one("\r"))
		case b >= 33 && b <= 126 && !strings.ContainsAny(s, "0123456789abcdefghijklmnopqrstuvwxyzABCDEFGHIJKLMNOPQRSTUVWXYZ"):
			mustParse(t, `\`+s, one(s))
			mustParse(t, `[\`+s+`]`, one(s))
		default:
			mustFail(t, `\`+s, 0)
			mustFail(t, `ab\`+s+`)`, 2)
			mustFail(t, `[ab\`+s+`)`, 3)
		}
		hex := strconv.FormatUint(0x100+uint64(b), 16)[1:]
		mustParse(t, `\x`+hex, one(s))
		mustParse(t, `a\x`+hex+"a", regex.Cat(one("a"), one(s), one("a")))
		mustParse(t, `[\x`+hex+`]`, one(s))
	}
	mustParse(t, ".", regex.Set(byteset.Not(byteset.Of("\n"))))
	mustParse(t, ` ^-,"'`, regex.Cat(one(" "), one("^"), one("-"), one(","), one(`"`), one("'")))
}

func TestParseOfClasses(t *testing.T) {
	all := byteset.Not(api.Set{})
	for s, want := range map[string]api.Set{
		"[]":               {},
		"[^]":              all,
		"[a]":              byteset.Of("a"),
		"[^a]":             byteset.Not(byteset.Of("a")),
		"[abc]":            byteset.Of("abc"),
		"[aab]":            byteset.Of("ab"),
		"[a-c]":            byteset.Of("abc"),
		"[a-a]":            byteset.Of("a"),
		"[a-cb-d]":         byteset.Of("abcd"),
		"[a-cx-z_]":        byteset.Of("abcxyz_"),
		"[^a-c0]":          byteset.Not(byteset.Of("abc0")),
		"[ -,]":            byteset.Range(32, 44),
		"[ -~]":            byteset.Range(32, 126),
		`[\x00-\xff]`:      all,
		`[^\x00-\xff]`:     {},
		`[\^]`:             byteset.Of("^"),
		`[^\^]`:            byteset.Not(byteset.Of("^")),
		`[\]\\\-]`:         byteset.Of(`]\-`),
		`[\--0]`:           byteset.Range('-', '0'),
		`[+-\-]`:           byteset.Range('+', '-'),
		`[\t-\r]`:          byteset.Range(9, 13),
		`[\n]`:             byteset.Of("\n"),
		"[()[{}|&*+?.~/]":  byteset.Of("()[{}|&*+?.~/"),
		"[[]":              byteset.Of("["),
		"[/]":              byteset.Of("/"),
		`[\x41-Z]`:         byteset.Range('A', 'Z'),
		`[A-\x5a]`:         byteset.Range('A', 'Z'),
		`[\/]`:             byteset.Of("/"),
		`[^\x0a]`:          byteset.Not(byteset.Of("\n")),
		`[\x0a\x0d\x09 a]`: byteset.Of("\n\r\t a"),
	} {
		mustParse(t, s, regex.Set(want))
		mustParse(t, "("+s+")", regex.Set(want))
		mustParse(t, "a"+s+"+", regex.Cat(one("a"), regex.Rep(regex.Set(want), 1, -1)))
	}
	for b, s := range everyByte() {
		if b >= 32 && b <= 126 && !strings.Contains(`]\^-`, s) {
			mustParse(t, "["+s+"]", one(s))
			mustParse(t, "[^"+s+"]", regex.Set(byteset.Not(byteset.Of(s))))
			mustParse(t, "["+s+"-~]", regex.Set(byteset.Range(byte(b), '~')))
		}
	}
}

// P3.1: what is none, and where

func TestParseOfBytesThatCannotStandThere(t *testing.T) {
	for s, want := range map[string]int{
		")":            0,
		"a)":           1,
		"(a))":         3,
		"()(":          3,
		"*":            0,
		"+a":           0,
		"?":            0,
		"{2}":          0,
		"a|*":          2,
		"a&+":          2,
		"(*)":          1,
		"(?:a)":        1,
		"~*":           1,
		"~~{1}":        2,
		"~|a":          1,
		"~&a":          1,
		"(~)":          2,
		"~)":           1,
		"]":            0,
		"a]":           1,
		"}":            0,
		"a}":           1,
		"a{1}}":        4,
		"/":            0,
		"a/b":          1,
		"\n":           0,
		"a\tb":         1,
		"ab\r":         2,
		"\x00":         0,
		"\x1f":         0,
		"\x7f":         0,
		"a\x80":        1,
		"ä":            0,
		"aaa\xff":      3,
		"[\n]":         1,
		"[a\x7f]":      2,
		"[\x80]":       1,
		"[a-\x1f]":     3,
		"[a-\xff]":     3,
		"[-]":          1,
		"[-a]":         1,
		"[a-]":         3,
		"[a--]":        3,
		"[a-^]":        3,
		"[a-b-c]":      4,
		"[^^]":         2,
		"[a^]":         2,
		"[^-]":         2,
		"[]]":          2,
		"[a]]":         3,
		"a{1x}":        3,
		"a{1 }":        3,
		"a{1,2x}":      5,
		"a{1,2,}":      5,
		"a{1,,}":       4,
		"a{1{":         3,
		"a{1}{2}}":     7,
		"ab(c|d)*)|e":  8,
		"a|b|c|d\x01z": 7,
	} {
		mustFail(t, s, want)
	}
}

func TestParseOfTextsThatEndTooEarly(t *testing.T) {
	for _, s := range []string{
		"(", "((", "(a", "(a|", "(a|b", "(a&", "((a)", "(()", "~", "~~", "a~", "a|~", "(~", "(a)(",
		"[", "[^", "[a", "[a-", "[a-b", "[^a", "[^a-", `[\n`, `[\]`, `[\--`, "a[", "a|[b",
		"a{", "a{1", "a{12", "a{1,", "a{1,2", "a{12,32", "(a{2}", "(a*",
	} {
		mustFail(t, s, len(s))
	}
}

func TestParseOfEscapesThatAreNotValid(t *testing.T) {
	for s, want := range map[string]int{
		`\`:          0,
		`a\`:         1,
		`(\`:         1,
		`\x`:         0,
		`\x4`:        0,
		`ab\x4`:      2,
		`\x4g`:       0,
		`\xg4`:       0,
		`\xAb`:       0,
		`\xaB`:       0,
		`\x 1`:       0,
		`\X41`:       0,
		`\a`:         0,
		`\N`:         0,
		`\0`:         0,
		`\ `:         0,
		"\\\n":       0,
		"\\\x7f":     0,
		"\\\x80":     0,
		`a|b\q`:      3,
		`~\`:         1,
		`[\`:         1,
		`[ab\`:       3,
		`[\x`:        1,
		`[\x4]`:      1,
		`[\q]`:       1,
		`[^\d]`:      2,
		`[a-\`:       3,
		`[a-\x6`:     3,
		`[a-\w]`:     3,
		`[z-\w]`:     3,
		`[\x61-\xg]`: 6,
		`\\\`:        2,
		`\n\t\r\b`:   6,
	} {
		mustFail(t, s, want)
	}
}

func TestParseOfNumbersThatAreMissingOrNotValid(t *testing.T) {
	for s, want := range map[string]int{
		"a{}":                                2,
		"a{,}":                               2,
		"a{,3}":                              2,
		"a{x}":                               2,
		"a{ 1}":                              2,
		"a{-1}":                              2,
		"a{+1}":                              2,
		"a{33}":                              2,
		"a{99}":                              2,
		"a{100}":                             2,
		"a{001}":                             2,
		"a{000}":                             2,
		"a{032}":                             2,
		"a{33,}":                             2,
		"a{33,34}":                           2,
		"a{100,":                             2,
		"a{100":                              2,
		"a{33":                               2,
		"a{33x":                              2,
		"a{1,33}":                            4,
		"a{1,99":                             4,
		"a{1,100}":                           4,
		"a{1,002}":                           4,
		"a{32,33}":                           5,
		"a{1,-2}":                            4,
		"a{1,x}":                             4,
		"a{1, 2}":                            4,
		"(ab{2}c{44})":                       8,
		"a{12345678901234567890123456789}":   2,
		"a{1,12345678901234567890123456789}": 4,
		"a{" + strings.Repeat("0", 1000):     2,
	} {
		mustFail(t, s, want)
	}
}

func TestParseOfRangesAndCountsThatFall(t *testing.T) {
	for s, want := range map[string]int{
		"[b-a]":             1,
		"[^b-a]":            2,
		"[a-cz-y]":          4,
		`[\x62-a]`:          1,
		`[b-\x61]`:          1,
		`[x\r-\n]`:          2,
		`[\]-\[]`:           1,
		"[b-a":              1,
		"[b-a-":             1,
		"[b-a\n":            1,
		"ab(c[~- ]":         5,
		"a{3,2}":            2,
		"a{3,2":             2,
		"a{3,2x":            2,
		"a{3,2,1}":          2,
		"a{3,2)":            2,
		"a{32,0}":           2,
		"a{32,31}":          2,
		"a{10,9}":           2,
		"a{10,09\x00":       2,
		"a{1,0}{99}":        2,
		"(a|b{2}{20,19}))(": 8,
		"a{3,200}":          4,
		"a{3,33}":           4,
	} {
		mustFail(t, s, want)
	}
}

func TestParseOfTooManyOpenParentheses(t *testing.T) {
	nested := func(depth int, s string) string {
		return strings.Repeat("(", depth) + s + strings.Repeat(")", depth)
	}
	for _, depth := range []int{1, 2, 31, 32} {
		mustParse(t, nested(depth, "a"), one("a"))
		mustParse(t, nested(depth, ""), regex.Cat())
	}
	mustFail(t, nested(33, "a"), 32)
	mustFail(t, nested(34, "a"), 32)
	mustFail(t, strings.Repeat("(", 32), 32)
	mustFail(t, strings.Repeat("(", 33), 32)
	mustFail(t, strings.Repeat("(", api.MaxText), 32)
	mustFail(t, nested(32, "a(b)"), 33)
	mustFail(t, strings.Repeat("a|(", 33), 98)
	mustFail(t, strings.Repeat("()", 40)+nested(33, "a"), 112)
	// Those that are closed, escaped or in a class are not open.
	mustParse(t, nested(32, "a")+nested(32, "b"), regex.Cat(one("a"), one("b")))
	mustParse(t, nested(31, "(a)(b)"), regex.Cat(one("a"), one("b")))
	mustParse(t, nested(32, `\([(]`), regex.Cat(one("("), one("(")))
	mustFail(t, nested(32, `\([(](`), 32+5)
	mustParse(t, strings.Repeat("()", api.MaxText/2), regex.Cat(slices.Repeat([]api.Node{regex.Cat()}, api.MaxText/2)...))
}

func TestParseTellsTheFirstProblemOfSeveral(t *testing.T) {
	for s, want := range map[string]int{
		`*\q`:                                0,
		`\q*)`:                               0,
		"a{33}[b-a]":                         2,
		"[b-a]a{33}":                         1,
		"a{3,2}\x00":                         2,
		"\x00a{3,2}":                         0,
		`[b-a\`:                              1,
		`[\q-a]`:                             1,
		`[b-\q`:                              3,
		`a)\`:                                1,
		`a{1,\`:                              4,
		"(a{3,2":                             3,
		"~)a{44}":                            1,
		`(((\x4)`:                            3,
		"[a-\n-\\":                           3,
		"(((((((((a|*)":                      11,
		strings.Repeat("(", 33) + "*":        32,
		strings.Repeat("(", 32) + "*(":       32,
		"a{5,4" + strings.Repeat("(", 40):    2,
		strings.Repeat("~", 100) + ")":       100,
		strings.Repeat("~", 100) + "a{9,8}":  102,
		"a" + strings.Repeat("*", 100) + "]": 101,
	} {
		mustFail(t, s, want)
	}
}

func TestParseOfNestingThatIsTooDeep(t *testing.T) {
	nots := func(n int, s string) string { return strings.Repeat("~", n) + s }
	stars := func(n int, s string) string { return s + strings.Repeat("*", n) }
	// mixed has two levels for each pair of parentheses.
	mixed := func(n int) string { return strings.Repeat("~(a", n) + "b" + strings.Repeat(")", n) }
	for _, c := range []struct{ most, over string }{
		{nots(63, "a"), nots(64, "a")},
		{nots(62, "ab"), nots(63, "ab")},
		{nots(62, "(ab)"), nots(63, "(ab)")},
		{nots(63, "()"), nots(64, "()")},
		{stars(63, "a"), stars(64, "a")},
		{stars(62, "(a|b)"), stars(63, "(a|b)")},
		{nots(30, stars(33, "a")), nots(31, stars(33, "a"))},
		{"b" + nots(62, "a"), "b" + nots(63, "a")},
		{"b|c&d" + nots(60, "a"), "b|c&d" + nots(61, "a")},
		{nots(1, mixed(31)), nots(2, mixed(31))},
		{nots(62, "a") + "|b", nots(63, "a") + "|b"},
	} {
		mustParse(t, c.most, tree(c.most))
		mustFail(t, c.over, len(c.over))
	}
	mustFail(t, nots(64, "a"), 65)
	mustFail(t, stars(64, "a"), 65)
	mustFail(t, nots(64, "a")+"|b", 67)
	mustFail(t, nots(api.MaxText-1, "a"), api.MaxText)
	mustFail(t, stars(api.MaxText-1, "a"), api.MaxText)
	mustFail(t, "a"+strings.Repeat("{1}", api.MaxText/3), api.MaxText)
	mustFail(t, "("+nots(64, "a"), 66)
}

func TestParseOfLongTexts(t *testing.T) {
	for _, c := range []struct {
		unit string
		want api.Node
	}{
		{"a", regex.Cat(slices.Repeat([]api.Node{one("a")}, api.MaxText)...)},
		{"|", regex.Alt(slices.Repeat([]api.Node{regex.Cat()}, api.MaxText+1)...)},
		{"&", regex.And(slices.Repeat([]api.Node{regex.Cat()}, api.MaxText+1)...)},
	} {
		mustParse(t, strings.Repeat(c.unit, api.MaxText), c.want)
	}
	mustParse(t, "["+strings.Repeat("a", api.MaxText-2)+"]", one("a"))
	mustFail(t, strings.Repeat("a", api.MaxText-1)+")", api.MaxText-1)
	mustFail(t, strings.Repeat("a", api.MaxText-1)+"(", api.MaxText)
	for _, unit := range []string{"a", "(", ")", "~", "*", "[", "\\", "\x00", "\xff"} {
		for _, length := range []int{api.MaxText + 1, api.MaxText + 2, 3 * api.MaxText} {
			if n, e, at := pattern.Parse(strings.Repeat(unit, length)); e != api.ErrLimit || at != 0 || !isZero(n) {
				t.Errorf("Parse of %d times %q = %v, %d, %d", length, unit, n, e, at)
			}
		}
	}
}

// agree holds what Parse tells of a text against the reference, and tells whether the text is a pattern.
func agree(t *testing.T, s string) bool {
	t.Helper()
	want := firstProblem(s)
	if want < 0 && regex.Check(tree(s)) != api.OK {
		want = len(s)
	}
	if want >= 0 {
		mustFail(t, s, want)
		return false
	}
	mustParse(t, s, tree(s))
	return true
}

// everyText gives all texts of a length over letters.
func everyText(letters []string, length int, text string, use func(string)) {
	if length == 0 {
		use(text)
		return
	}
	for _, letter := range letters {
		everyText(letters, length-1, text+letter, use)
	}
}

func TestParseOfAllShortTexts(t *testing.T) {
	for _, c := range []struct {
		letters string
		length  int
	}{
		{"ab()[]{}|&*+?.~\\/^-,23xn \n\x7f\xff", 3},
		{"a()[]{}|&*~\\^-,3", 4},
		{"a()|&~*", 6},
		{"ab[]^-\\", 6},
		{"a{},129", 6},
	} {
		letters := strings.Split(c.letters, "")
		if strings.Contains(c.letters, "\xff") {
			letters[len(letters)-1] = "\xff"
		}
		good := 0
		for length := range c.length + 1 {
			everyText(letters, length, "", func(s string) {
				if agree(t, s) {
					good++
				}
			})
		}
		if good < 10 {
			t.Errorf("%q: only %d patterns", c.letters, good)
		}
	}
}

func TestParseOfRandomTexts(t *testing.T) {
	pieces := []string{
		"a", "b", "0", " ", "-", "^", ",", "(", "(", ")", ")", "|", "&", "~", "*", "+", "?", ".", "{2}", "{1,}", "{0,3}", "{3,2}", "{33}", "{", "}",
		"[]", "[^]", "[a-z]", "[^0-9_]", "[z-a]", "[", "]", `[\n-\r]`, `\n`, `\x7f`, `\xff`, `\/`, `\\`, `\q`, `\`, "/", "\n", "\x80", "{1}", "()", "(a|b)",
	}
	s := source(7)
	good := 0
	for range 60000 {
		var text strings.Builder
		for range 1 + s.below(12) {
			text.WriteString(s.pick(pieces))
		}
		if agree(t, text.String()) {
			good++
		}
	}
	if good < 1000 {
		t.Errorf("only %d patterns", good)
	}
}

// Rules 3 and 4: results are in new memory, and depend on the text alone.

// rooms are all lists of a pattern, with what they have beyond their ends.
func rooms(n api.Node) [][]api.Node {
	var l [][]api.Node
	if cap(n.Kids) > 0 {
		l = append(l, n.Kids[:cap(n.Kids)])
	}
	for _, kid := range n.Kids {
		l = append(l, rooms(kid)...)
	}
	return l
}

func TestParsedPatternsShareNoMemory(t *testing.T) {
	for _, s := range []string{"ab|cd&(e|f)*", "~(a*b{2,3})~(ab)", "(a|b)(a|b)(a|b)", "(((a|b)))|c", "|", "()()", "a+++"} {
		first, _, _ := pattern.Parse(s)
		again, _, _ := pattern.Parse(s)
		seen := map[*api.Node]bool{}
		for _, room := range append(rooms(first), rooms(again)...) {
			for i := range room {
				if seen[&room[i]] {
					t.Fatalf("%q: two lists share memory", s)
				}
				seen[&room[i]] = true
			}
		}
		for _, room := range rooms(first) {
			for i := range room {
				room[i] = api.Node{Op: 77}
			}
		}
		mustParse(t, s, again)
	}
}

func TestParseDependsOnTheTextAlone(t *testing.T) {
	for _, s := range []string{"a*b+c?d{1,2}", "[a-c]+|~b?", "a{3,2}", "((", "~" + strings.Repeat("a*", 50)} {
		n, e, at := pattern.Parse(s)
		for range 50 {
			pattern.Parse("a*" + s)
			m, f, to := pattern.Parse(s)
			if e != f || at != to || !regex.Same(n, m) {
				t.Fatalf("Parse(%q) = %v, %d, %d and then %v, %d, %d", s, n, e, at, m, f, to)
			}
		}
	}
}
