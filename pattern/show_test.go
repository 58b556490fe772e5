package pattern_test

import (
	"strconv"
	"strings"
	"testing"

	"homograph/api"
	"homograph/byteset"
	"homograph/pattern"
	"homograph/regex"
)

// P3.2

// escapeOf is the escape of a byte, by the words of the chapter.
func escapeOf(b int) string {
	switch {
	case b == 10:
		return `\n`
	case b == 9:
		return `\t`
	case b == 13:
		return `\r`
	case b >= 33 && b <= 126:
		return `\` + string(rune(b))
	}
	return `\x` + strconv.FormatInt(int64(0x100+b), 16)[1:]
}

// inClass is a byte as it is printed in a class.
func inClass(b int) string {
	if b >= 32 && b <= 126 && !strings.Contains(`]\^-/`, string(rune(b))) {
		return string(rune(b))
	}
	return escapeOf(b)
}

// classOf is the class of a set, by the words of the chapter.
func classOf(s api.Set) string {
	has := func(b int) bool { return b >= 0 && b < 256 && s[b/64]>>(b%64)&1 == 1 }
	count := 0
	for b := range 256 {
		if has(b) {
			count++
		}
	}
	if count > 128 {
		return "[^" + classOf(api.Set{^s[0], ^s[1], ^s[2], ^s[3]})[1:]
	}
	text := "["
	for b := range 256 {
		switch {
		case !has(b):
		case has(b-1) && has(b+1):
			// In the middle of a range: a hyphen, once.
			if !has(b - 2) {
				text += "-"
			}
		default:
			text += inClass(b)
		}
	}
	return text + "]"
}

func mustBeClass(t *testing.T, s api.Set, want string) {
	t.Helper()
	if got := pattern.Class(s); got != want {
		t.Errorf("Class(%x) = %q, want %q", s, got, want)
	}
	if got := pattern.Show(regex.Set(s)); got != want {
		t.Errorf("Show of the Set %x = %q, want %q", s, got, want)
	}
	mustParse(t, want, regex.Set(s))
}

func TestClassOfOneByte(t *testing.T) {
	for b := range 256 {
		want := escapeOf(b)
		if b >= 32 && b <= 126 && !strings.Contains(`()[]{}|&*+?.~\/`, string(rune(b))) {
			want = string(rune(b))
		}
		mustBeClass(t, byteset.Range(byte(b), byte(b)), want)
	}
	for s, want := range map[string]string{
		"a": "a", " ": " ", "^": "^", "-": "-", ",": ",", "]": `\]`, "\\": `\\`, "/": `\/`, ".": `\.`, "~": `\~`,
		"\n": `\n`, "\t": `\t`, "\r": `\r`, "\x00": `\x00`, "\x0b": `\x0b`, "\x1f": `\x1f`, "\x7f": `\x7f`, "\x80": `\x80`, "\xff": `\xff`,
	} {
		mustBeClass(t, byteset.Of(s), want)
	}
}

func TestClassOfSets(t *testing.T) {
	all := byteset.Not(api.Set{})
	without := func(s string) api.Set { return byteset.Not(byteset.Of(s)) }
	for _, c := range []struct {
		set  api.Set
		want string
	}{
		{api.Set{}, "[]"},
		{all, "[^]"},
		{without("\n"), "."},
		{without("a"), "[^a]"},
		{without("\r"), `[^\r]`},
		{without("\n\r"), `[^\n\r]`},
		{without("\n\x0b"), `[^\n\x0b]`},
		{without("]"), `[^\]]`},
		{byteset.Of("ab"), "[ab]"},
		{byteset.Of("ac"), "[ac]"},
		{byteset.Of("abc"), "[a-c]"},
		{byteset.Of("abcd"), "[a-d]"},
		{byteset.Of("aceb"), "[a-ce]"},
		{byteset.Of("abdegxyz"), "[abdegx-z]"},
		{byteset.Of(`]\^-/`), `[\-\/\\-\^]`},
		{byteset.Of("-/"), `[\-\/]`},
		{byteset.Of("-a"), `[\-a]`},
		{byteset.Of("^a"), `[\^a]`},
		{byteset.Of("./"), `[.\/]`},
		{byteset.Of("()[{}|&*+?.~"), "[&(-+.?[{-~]"},
		{byteset.Of("\n\r"), `[\n\r]`},
		{byteset.Of("\t\n"), `[\t\n]`},
		{byteset.Range(9, 13), `[\t-\r]`},
		{byteset.Range(32, 126), "[ -~]"},
		{byteset.Range(31, 127), `[\x1f-\x7f]`},
		{byteset.Range(0, 127), `[\x00-\x7f]`},
		{byteset.Range(128, 255), `[\x80-\xff]`},
		{byteset.Range(0, 128), `[^\x81-\xff]`},
		{byteset.Range(127, 255), `[^\x00-~]`},
		{byteset.Range(254, 255), `[\xfe\xff]`},
		{byteset.Range(0, 1), `[\x00\x01]`},
		{byteset.Union(byteset.Range(0, 126), byteset.Of("\xff")), `[\x00-~\xff]`},
		{byteset.Union(byteset.Range(0, 127), byteset.Of("\xff")), `[^\x80-\xfe]`},
	} {
		mustBeClass(t, c.set, c.want)
	}
}

// sets are sets of all shapes and sizes.
func sets() []api.Set {
	var l []api.Set
	for lo := 0; lo < 256; lo += 3 {
		for hi := lo + 1; hi < 256; hi += 5 {
			l = append(l, byteset.Range(byte(lo), byte(hi)), byteset.Not(byteset.Range(byte(lo), byte(hi))))
		}
	}
	s := source(3)
	for size := range 257 {
		// So many bytes, first of all bytes and then of those that stand close to each other.
		for _, spread := range []int{256, size + size/2 + 2} {
			var set api.Set
			for byteset.Count(set) < size {
				b := s.below(256) % spread
				set[b/64] |= 1 << (b % 64)
			}
			l = append(l, set)
		}
	}
	return l
}

func TestClassOfManySets(t *testing.T) {
	for _, s := range sets() {
		if byteset.Count(s) != 1 && s != byteset.Not(byteset.Of("\n")) {
			mustBeClass(t, s, classOf(s))
		}
	}
}

// P3.3

func mustShow(t *testing.T, n api.Node, want string) {
	t.Helper()
	if got := pattern.Show(n); got != want {
		t.Errorf("Show(%v) = %q, want %q", n, got, want)
	}
}

// stars is a Rep without limits.
func stars(n api.Node) api.Node { return regex.Rep(n, 0, -1) }

func TestShowOfLists(t *testing.T) {
	x, y, z := one("x"), one("y"), one("z")
	for _, c := range []struct {
		n    api.Node
		want string
	}{
		{regex.Cat(), ""},
		{regex.Alt(), "[]"},
		{regex.And(), "[^]*"},
		{regex.Cat(x), "x"},
		{regex.Alt(x), "x"},
		{regex.And(x), "x"},
		{regex.Cat(x, y), "xy"},
		{regex.Alt(x, y), "x|y"},
		{regex.And(x, y), "x&y"},
		{regex.Cat(x, y, z), "xyz"},
		{regex.Alt(x, y, z), "x|y|z"},
		{regex.And(x, y, z), "x&y&z"},
		{regex.Cat(regex.Cat()), ""},
		{regex.Cat(regex.Alt()), "[]"},
		{regex.Alt(regex.And()), "[^]*"},
		{regex.And(regex.Cat()), ""},
		{regex.Alt(regex.Cat(), regex.Cat()), "|"},
		{regex.And(regex.Cat(), regex.Cat()), "&"},
		{regex.Cat(regex.Cat(), regex.Cat()), "()()"},
		{regex.Alt(regex.Alt(), regex.Alt()), "[]|[]"},
		{regex.And(regex.And(), regex.And()), "[^]*&[^]*"},
		{regex.Cat(regex.Alt(), regex.And()), "[][^]*"},
		{regex.Cat(regex.Alt(x, y)), "x|y"},
		{regex.Lit("a+b\n"), `a\+b\n`},
		{regex.Lit(""), ""},
	} {
		mustShow(t, c.n, c.want)
	}
}

func TestShowOfRepetitions(t *testing.T) {
	x := one("x")
	for least := range 33 {
		for _, most := range []int{-1, -2, -33, -1 << 63} {
			want := map[int]string{0: "x*", 1: "x+"}[least]
			if want == "" {
				want = "x{" + strconv.Itoa(least) + ",}"
			}
			mustShow(t, regex.Rep(x, least, most), want)
		}
		for most := least; most <= 32; most++ {
			want := "x{" + strconv.Itoa(least) + "," + strconv.Itoa(most) + "}"
			if least == most {
				want = "x{" + strconv.Itoa(least) + "}"
			}
			if least == 0 && most == 1 {
				want = "x?"
			}
			mustShow(t, regex.Rep(x, least, most), want)
		}
	}
	mustShow(t, regex.Rep(x, 0, 0), "x{0}")
	mustShow(t, regex.Rep(x, 1, 1), "x{1}")
	mustShow(t, regex.Rep(x, 1, 2), "x{1,2}")
	mustShow(t, regex.Rep(x, 2, -1), "x{2,}")
}

// kidTexts are a Kid of each kind, with its text in an Alt, an And, a Cat, a Not and a Rep.
func kidTexts() []struct {
	kid  api.Node
	want [5]string
} {
	x, y := one("x"), one("y")
	return []struct {
		kid  api.Node
		want [5]string
	}{
		{x, [5]string{"x", "x", "x", "x", "x"}},
		{regex.Cat(), [5]string{"", "", "()", "()", "()"}},
		{regex.Cat(x, y), [5]string{"xy", "xy", "(xy)", "(xy)", "(xy)"}},
		{regex.Alt(), [5]string{"[]", "[]", "[]", "[]", "[]"}},
		{regex.Alt(x, y), [5]string{"(x|y)", "(x|y)", "(x|y)", "(x|y)", "(x|y)"}},
		{regex.And(), [5]string{"[^]*", "[^]*", "[^]*", "[^]*", "[^]*"}},
		{regex.And(x, y), [5]string{"x&y", "(x&y)", "(x&y)", "(x&y)", "(x&y)"}},
		{regex.Not(x), [5]string{"~x", "~x", "~x", "~x", "(~x)"}},
		{stars(x), [5]string{"x*", "x*", "x*", "x*", "x*"}},
		{regex.Rep(x, 2, 3), [5]string{"x{2,3}", "x{2,3}", "x{2,3}", "x{2,3}", "x{2,3}"}},
		{regex.Not(regex.Cat(x, y)), [5]string{"~(xy)", "~(xy)", "~(xy)", "~(xy)", "(~(xy))"}},
	}
}

func TestShowOfEachKidInEachKind(t *testing.T) {
	a, b := one("a"), one("b")
	// Lists with one Kid, also one in the other, count as that Kid.
	covers := []func(api.Node) api.Node{
		func(n api.Node) api.Node { return n },
		func(n api.Node) api.Node { return regex.Cat(n) },
		func(n api.Node) api.Node { return regex.Alt(n) },
		func(n api.Node) api.Node { return regex.And(n) },
		func(n api.Node) api.Node { return regex.Cat(regex.Alt(regex.And(regex.Alt(n)))) },
	}
	for _, c := range kidTexts() {
		for _, cover := range covers {
			n, in := cover(c.kid), c.want
			for _, l := range []struct {
				make      func(...api.Node) api.Node
				separator string
				text      string
			}{{regex.Alt, "|", in[0]}, {regex.And, "&", in[1]}, {regex.Cat, "", in[2]}} {
				mustShow(t, l.make(n, a), l.text+l.separator+"a")
				mustShow(t, l.make(a, n), "a"+l.separator+l.text)
				mustShow(t, l.make(a, n, b), "a"+l.separator+l.text+l.separator+"b")
				mustShow(t, l.make(n, n), l.text+l.separator+l.text)
			}
			mustShow(t, regex.Not(n), "~"+in[3])
			mustShow(t, cover(regex.Not(n)), "~"+in[3])
			mustShow(t, stars(n), in[4]+"*")
			mustShow(t, cover(regex.Rep(n, 3, 3)), in[4]+"{3}")
		}
	}
}

func TestShowOfDeepPatterns(t *testing.T) {
	// Of the greatest depth, and, because derivatives outgrow it, of a greater one.
	for _, levels := range []int{62, 63, 1000} {
		cats, alts, nots, reps, ones := one("a"), one("a"), one("a"), one("a"), one("a")
		for range levels {
			cats = api.Node{Op: api.OpCat, Kids: []api.Node{one("b"), cats}}
			alts = api.Node{Op: api.OpAlt, Kids: []api.Node{alts, one("b")}}
			nots = api.Node{Op: api.OpNot, Kids: []api.Node{nots}}
			reps = api.Node{Op: api.OpRep, Max: -1, Kids: []api.Node{reps}}
			ones = api.Node{Op: api.OpAnd, Kids: []api.Node{ones}}
		}
		mustShow(t, cats, "b"+strings.Repeat("(b", levels-1)+"a"+strings.Repeat(")", levels-1))
		mustShow(t, alts, strings.Repeat("(", levels-1)+"a"+strings.Repeat("|b)", levels-1)+"|b")
		mustShow(t, nots, strings.Repeat("~", levels)+"a")
		mustShow(t, reps, "a"+strings.Repeat("*", levels))
		mustShow(t, ones, "a")
	}
}

// randomPattern is a valid pattern of at most so many levels.
func (s *source) randomPattern(levels int) api.Node {
	kinds := 6
	if levels == 1 {
		kinds = 1
	}
	kids := func() []api.Node {
		var l []api.Node
		for range []int{0, 1, 1, 2, 2, 2, 3}[s.below(7)] {
			l = append(l, s.randomPattern(levels-1))
		}
		return l
	}
	switch s.below(kinds) {
	case 1:
		return regex.Cat(kids()...)
	case 2:
		return regex.Alt(kids()...)
	case 3:
		return regex.And(kids()...)
	case 4:
		return regex.Not(s.randomPattern(levels - 1))
	case 5:
		least := s.below(4)
		return regex.Rep(s.randomPattern(levels-1), least, []int{-1, -5, least, least + 1, 32}[s.below(5)])
	}
	return regex.Set([]api.Set{
		byteset.Of("a"), byteset.Of("b"), byteset.Of("("), byteset.Of("\n"), byteset.Of(" "), {}, byteset.Not(api.Set{}),
		byteset.Not(byteset.Of("\n")), byteset.Of("a-]^"), byteset.Range('a', 'z'), byteset.Range(1, 200), {1, 2, 3, 4},
	}[s.below(12)])
}

// spelled is the pattern for which the text of n stands: n without what a text doesn't tell.
func spelled(n api.Node) api.Node {
	switch {
	case n.Op == api.OpAlt && len(n.Kids) == 0:
		return regex.Set(api.Set{})
	case n.Op == api.OpAnd && len(n.Kids) == 0:
		return stars(regex.Set(byteset.Not(api.Set{})))
	case n.Op != api.OpNot && n.Op != api.OpRep && len(n.Kids) == 1:
		return spelled(n.Kids[0])
	}
	kids := n.Kids
	n.Kids = nil
	for _, kid := range kids {
		n.Kids = append(n.Kids, spelled(kid))
	}
	n.Max = max(n.Max, -1)
	return n
}

// withoutOnePair are a text's variants in which one pair of parentheses is missing.
func withoutOnePair(s string) []string {
	var l []string
	var open []int
	for _, place := range tokenForm.FindAllStringIndex(s, -1) {
		switch s[place[0]:place[1]] {
		case "(":
			open = append(open, place[0])
		case ")":
			first, last := open[len(open)-1], place[0]
			open = open[:len(open)-1]
			l = append(l, s[:first]+s[first+1:last]+s[last+1:])
		}
	}
	return l
}

func TestShowIsParsedAndHasNoNeedlessParentheses(t *testing.T) {
	s := source(11)
	pairs := 0
	for range 20000 {
		n := s.randomPattern(1 + s.below(6))
		text, want := pattern.Show(n), spelled(n)
		mustParse(t, text, want)
		mustShow(t, want, text)
		for _, less := range withoutOnePair(text) {
			pairs++
			if m, e, _ := pattern.Parse(less); e == api.OK && regex.Same(m, want) {
				t.Errorf("Show(%v) = %q, but %q would do", n, text, less)
			}
		}
	}
	if pairs < 10000 {
		t.Errorf("only %d pairs of parentheses", pairs)
	}
}

// P3.4

func TestShowOfParsedPatternsIsParsedAsTheSame(t *testing.T) {
	texts := []string{
		"", "a", "a|b*", "()", "(())", "|", "&", "a|", "(a|b)|c", "((a)(b))c", "~(~a)*", "a{0,1}b{0,}c{1,}d{1}e{01,32}", "[^]", "[]", `[\x61]`, "[^\\n]", ".", "[b-d]|[/]",
		strings.Repeat("(a|", 32) + "b" + strings.Repeat(")", 32), strings.Repeat("~", 63) + "a", "a" + strings.Repeat("?", 63), strings.Repeat("a", api.MaxText),
	}
	s := source(5)
	for range 20000 {
		var text strings.Builder
		for range 1 + s.below(9) {
			text.WriteString(s.pick([]string{"a", "b", "(", ")", "|", "&", "~", "*", "?", "{2}", "{0,1}", "[a-c]", "[^a]", "[/]", `\n`, ".", "()", "(a|b)", "(ab)", "~(a&b)"}))
		}
		texts = append(texts, text.String())
	}
	good := 0
	for _, text := range texts {
		n, e, _ := pattern.Parse(text)
		if e != api.OK {
			continue
		}
		good++
		shown := pattern.Show(n)
		mustParse(t, shown, n)
		mustShow(t, n, shown)
	}
	if good < 3000 {
		t.Errorf("only %d patterns", good)
	}
}

// Rule 1: no call panics, even of what isn't valid.

func TestShowOfWhatIsNotValid(t *testing.T) {
	for _, n := range []api.Node{
		{Op: -1}, {Op: 6, Kids: []api.Node{one("a")}}, {Op: api.OpNot}, {Op: api.OpRep}, {Op: api.OpSet, Kids: []api.Node{one("a")}},
		{Op: api.OpNot, Kids: []api.Node{one("a"), one("b")}}, {Op: api.OpRep, Kids: []api.Node{{Op: 9}, one("b")}},
		{Op: api.OpRep, Min: -1 << 63, Max: 1<<63 - 1, Kids: []api.Node{one("a")}}, regex.Cat(api.Node{Op: 77}, api.Node{Op: api.OpNot}),
	} {
		pattern.Show(n)
	}
}

// Rules 3 and 4: arguments are neither modified nor retained, and results depend on them alone.

// roomy is a pattern whose lists all have more room than they use, with nodes beyond their ends.
func roomy(n api.Node) api.Node {
	kids := make([]api.Node, 0, len(n.Kids)+2)
	for _, kid := range n.Kids {
		kids = append(kids, roomy(kid))
	}
	for i := range cap(kids) - len(kids) {
		kids[:cap(kids)][len(kids)+i] = api.Node{Op: api.OpAlt, Min: 5 + i}
	}
	n.Kids = kids
	return n
}

// whole is a pattern with what its lists have beyond their ends as Kids too, in memory of its own.
func whole(n api.Node) api.Node {
	kids := n.Kids[:cap(n.Kids)]
	n.Kids = nil
	for _, kid := range kids {
		n.Kids = append(n.Kids, whole(kid))
	}
	return n
}

func TestShowLeavesItsArgument(t *testing.T) {
	s := source(13)
	for range 500 {
		n := s.randomPattern(1 + s.below(5))
		arg := roomy(n)
		before := whole(arg)
		text := pattern.Show(arg)
		if !regex.Same(whole(arg), before) {
			t.Fatalf("Show(%v) modified its argument", n)
		}
		// A text that only borrowed its bytes would change with what is printed next.
		kept := strings.Clone(text)
		pattern.Show(stars(n))
		pattern.Class(n.Set)
		if text != kept || text != pattern.Show(n) {
			t.Fatalf("Show(%v) = %q, and later another text", n, kept)
		}
	}
}

func TestShowDependsOnItsArgumentAlone(t *testing.T) {
	x := one("x")
	n := regex.Cat(stars(x), regex.Rep(x, 1, -1), regex.Rep(x, 0, 1), regex.Rep(x, 2, 2), regex.Rep(x, 0, 0))
	for range 200 {
		mustShow(t, n, "x*x+x?x{2}x{0}")
	}
}
