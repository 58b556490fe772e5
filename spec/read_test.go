package spec_test

import (
	"slices"
	"strconv"
	"strings"
	"testing"

	"homograph/api"
	"homograph/byteset"
	"homograph/drawn"
	"homograph/regex"
	"homograph/spec"
)

// P13.1: what Read makes of a specification

func TestReadOfTokens(t *testing.T) {
	a := token("a", "x+")
	mustRead(t, "token a /x+/;", api.Spec{Tokens: []api.Token{a}})
	long, high, both, layout := a, a, a, a
	long.Longest = true
	high.Prio = 12
	both.Longest, both.Prio = true, 12
	layout.Layout = true
	mustRead(t, "token a /x+/ longest;", api.Spec{Tokens: []api.Token{long}})
	mustRead(t, "token a /x+/ prio 12;", api.Spec{Tokens: []api.Token{high}})
	mustRead(t, "token a /x+/ longest prio 12;", api.Spec{Tokens: []api.Token{both}})
	mustRead(t, "token a /x+/ prio 12 longest;", api.Spec{Tokens: []api.Token{both}})
	mustRead(t, "layout a /x+/;", api.Spec{Tokens: []api.Token{layout}})
	mustRead(t, "token a /x+/; layout a /x+/; token a /x+/ longest;", api.Spec{Tokens: []api.Token{a, layout, long}})
	// What one declaration tells is not told of the next one.
	mustRead(t, "token a /x+/ longest prio 12; token a /x+/; layout a /x+/; token a /x+/ prio 12; token a /x+/ longest;", api.Spec{Tokens: []api.Token{both, a, layout, high, long}})
}

func TestReadOfPrios(t *testing.T) {
	for s, want := range map[string]int{"0": 0, "00": 0, "0000": 0, "1": 1, "9": 9, "10": 10, "010": 10, "0010": 10, "08": 8, "0009": 9, "123": 123, "1000": 1000, "9998": 9998, "9999": 9999} {
		a := token("a", "x")
		a.Prio = want
		mustRead(t, "token a /x/ prio "+s+";", api.Spec{Tokens: []api.Token{a}})
		a.Longest = true
		mustRead(t, "token a /x/ prio "+s+" longest;", api.Spec{Tokens: []api.Token{a}})
		mustRead(t, "token a /x/ longest prio "+s+";", api.Spec{Tokens: []api.Token{a}})
	}
}

func TestReadOfRules(t *testing.T) {
	for s, want := range map[string][]api.Rule{
		"S : a;":                         {rule("S", "a")},
		"S : a b c;":                     {rule("S", "a", "b", "c")},
		"S : a | b;":                     {rule("S", "a"), rule("S", "b")},
		"S : a b | c | d e f;":           {rule("S", "a", "b"), rule("S", "c"), rule("S", "d", "e", "f")},
		"S : S S | a;":                   {rule("S", "S", "S"), rule("S", "a")},
		"S:a|b;T:c;":                     {rule("S", "a"), rule("S", "b"), rule("T", "c")},
		"S : a; T : b; S : c;":           {rule("S", "a"), rule("T", "b"), rule("S", "c")},
		"S : a; S : a;":                  {rule("S", "a"), rule("S", "a")},
		"S : a | a;":                     {rule("S", "a"), rule("S", "a")},
		"b : c; a : b;":                  {rule("b", "c"), rule("a", "b")},
		"tokens : Start _prio longest1;": {rule("tokens", "Start", "_prio", "longest1")},
		"TOKEN : LAYOUT | START;":        {rule("TOKEN", "LAYOUT"), rule("TOKEN", "START")},
	} {
		mustRead(t, s, api.Spec{Rules: want})
	}
}

func TestReadOfEmptySequences(t *testing.T) {
	empty, a, b := rule("S"), rule("S", "a"), rule("S", "b")
	for s, want := range map[string][]api.Rule{
		"S : ;":           {empty},
		"S:;":             {empty},
		"S : | ;":         {empty, empty},
		"S : | | ;":       {empty, empty, empty},
		"S : | a;":        {empty, a},
		"S : a | ;":       {a, empty},
		"S : a | | b;":    {a, empty, b},
		"S : | a | ;":     {empty, a, empty},
		"S : a | | | b;":  {a, empty, empty, b},
		"S : a b | ;":     {rule("S", "a", "b"), empty},
		"S : ; S : a;":    {empty, a},
		"S : ; T : ; S:;": {empty, rule("T"), empty},
	} {
		mustRead(t, s, api.Spec{Rules: want})
	}
}

func TestReadOfStarts(t *testing.T) {
	rules := []api.Rule{rule("S", "a"), rule("T", "b")}
	mustRead(t, "start S;", api.Spec{Start: "S"})
	mustRead(t, "start S; S : a; T : b;", api.Spec{Rules: rules, Start: "S"})
	mustRead(t, "S : a; T : b; start S;", api.Spec{Rules: rules, Start: "S"})
	mustRead(t, "S : a; start T; T : b;", api.Spec{Rules: rules, Start: "T"})
	mustRead(t, "S : a; T : b; start none;", api.Spec{Rules: rules, Start: "none"})
	mustRead(t, "S : a; T : b;", api.Spec{Rules: rules})
	mustRead(t, "token a /x/; start a;", api.Spec{Tokens: []api.Token{token("a", "x")}, Start: "a"})
	mustRead(t, "start started;", api.Spec{Start: "started"})
}

// Tokens and rules keep their order, each among themselves, wherever the declarations stand.
func TestReadOfDeclarationsInAnyOrder(t *testing.T) {
	s := drawn.Source(231)
	layout := token("l", " ")
	layout.Layout = true
	tokens := map[string]api.Token{"token a /x/;": token("a", "x"), "token b /y/;": token("b", "y"), "layout l / /;": layout}
	rules := map[string][]api.Rule{"S : a | ;": {rule("S", "a"), rule("S")}, "T : b;": {rule("T", "b")}}
	all := []string{"token a /x/;", "token b /y/;", "layout l / /;", "S : a | ;", "T : b;", "start S;"}
	for range 2000 {
		i, j := s.Below(len(all)), s.Below(len(all))
		all[i], all[j] = all[j], all[i]
		want := api.Spec{Start: "S"}
		for _, d := range all {
			if found, ok := tokens[d]; ok {
				want.Tokens = append(want.Tokens, found)
			}
			want.Rules = append(want.Rules, rules[d]...)
		}
		mustRead(t, strings.Join(all, ""), want)
		mustRead(t, strings.Join(all, "\n"), want)
	}
}

func TestReadOfExample(t *testing.T) {
	a := token("a", "x+")
	a.Longest = true
	mustRead(t, "token a /x+/ longest; start S; S : a S | ;", api.Spec{Tokens: []api.Token{a}, Rules: []api.Rule{rule("S", "a", "S"), rule("S")}, Start: "S"})
}

func TestReadOfNoWords(t *testing.T) {
	for _, s := range []string{"", " ", "\n", "\t\r\n ", "#", "# a", "# a\n", "# token\n\n# start S;\n \t# :", "#\xff\x00"} {
		mustRead(t, s, api.Spec{})
	}
}

// The same declaration twice is read as two of them; but for start, none is wrong.
func TestReadOfTheSameTwice(t *testing.T) {
	a, r := token("a", "x"), rule("S", "a")
	layout := token("l", " ")
	layout.Layout = true
	mustRead(t, "token a /x/; token a /x/;", api.Spec{Tokens: []api.Token{a, a}})
	mustRead(t, "layout l / /; layout l / /;", api.Spec{Tokens: []api.Token{layout, layout}})
	mustRead(t, "S : a; S : a;", api.Spec{Rules: []api.Rule{r, r}})
	// Names that are there twice, and what else package check rejects, aren't wrong here.
	mustRead(t, "token a //; layout a //; a : a a a a a a a a a;", api.Spec{Tokens: []api.Token{token("a", ""), {Name: "a", Pattern: shape(""), Layout: true}}, Rules: []api.Rule{rule("a", "a", "a", "a", "a", "a", "a", "a", "a", "a")}})
}

func TestReadOfShapes(t *testing.T) {
	one := func(b byte) api.Node { return regex.Set(byteset.Range(b, b)) }
	for text, want := range map[string]api.Node{
		"":             regex.Cat(),
		"x":            one('x'),
		" ":            one(' '),
		`\/`:           one('/'),
		`\/\/`:         regex.Cat(one('/'), one('/')),
		`\\`:           one('\\'),
		`\\\/`:         regex.Cat(one('\\'), one('/')),
		`\n`:           one('\n'),
		`\x80`:         one(0x80),
		`\xff*`:        regex.Rep(one(0xff), 0, -1),
		`\;`:           one(';'),
		"#":            one('#'),
		":;":           regex.Cat(one(':'), one(';')),
		"token":        regex.Lit("token"),
		"x|y&~z":       regex.Alt(one('x'), regex.And(one('y'), regex.Not(one('z')))),
		"(x{2,3})?":    regex.Rep(regex.Rep(one('x'), 2, 3), 0, 1),
		`[\/\]]`:       regex.Set(byteset.Of("/]")),
		"[a-z]+&~(if)": regex.And(regex.Rep(regex.Set(byteset.Range('a', 'z')), 1, -1), regex.Not(regex.Lit("if"))),
	} {
		mustRead(t, "token a /"+text+"/;", api.Spec{Tokens: []api.Token{{Name: "a", Pattern: want}}})
		mustRead(t, "token a/"+text+"/longest;", api.Spec{Tokens: []api.Token{{Name: "a", Pattern: want, Longest: true}}})
		mustRead(t, "layout a /"+text+"/;", api.Spec{Tokens: []api.Token{{Name: "a", Pattern: want, Layout: true}}})
	}
}

// The limits of a grammar are none of a text.
func TestReadOfMany(t *testing.T) {
	var tokens, rules strings.Builder
	var want api.Spec
	for i := range 1000 {
		name := "n" + strconv.Itoa(i)
		tokens.WriteString("token " + name + " /x/ prio " + strconv.Itoa(i) + ";")
		found := token(name, "x")
		found.Prio = i
		want.Tokens = append(want.Tokens, found)
		rules.WriteString(name + ": a " + name + " | ;")
		want.Rules = append(want.Rules, rule(name, "a", name), rule(name))
	}
	mustRead(t, tokens.String()+rules.String(), want)
	mustRead(t, rules.String()+tokens.String(), want)
}

func TestReadOfLongTexts(t *testing.T) {
	const most = api.MaxText
	mustRead(t, "S:"+strings.Repeat("|", most-3)+";", api.Spec{Rules: slices.Repeat([]api.Rule{rule("S")}, most-2)})
	mustRead(t, "S:"+strings.Repeat("a ", (most-3)/2)+";", api.Spec{Rules: []api.Rule{rule("S", slices.Repeat([]string{"a"}, (most-3)/2)...)}})
	mustRead(t, strings.Repeat("S:;", most/3), api.Spec{Rules: slices.Repeat([]api.Rule{rule("S")}, most/3)})
	mustRead(t, strings.Repeat("layout a//;", most/11), api.Spec{Tokens: slices.Repeat([]api.Token{{Name: "a", Pattern: regex.Cat(), Layout: true}}, most/11)})
	shape := "token a/" + strings.Repeat("x", most-10) + "/;"
	mustRead(t, shape, api.Spec{Tokens: []api.Token{token("a", strings.Repeat("x", most-10))}})
	mustRead(t, strings.Repeat(" ", most), api.Spec{})
	mustRead(t, "S:;"+strings.Repeat("\n", most-3), api.Spec{Rules: []api.Rule{rule("S")}})
	name := strings.Repeat("a", 32)
	mustRead(t, "start "+name+";"+name+":"+name+";", api.Spec{Rules: []api.Rule{rule(name, name)}, Start: name})
	mustNotRead(t, "S:"+strings.Repeat("|", most-2), api.ErrSpec, most)
	mustNotRead(t, strings.Repeat("S:;", most/3)+":", api.ErrSpec, most-1)
	mustNotRead(t, strings.Repeat(";", most), api.ErrSpec, 0)
	mustNotRead(t, "token a/"+strings.Repeat("x", most-10)+"*", api.ErrWord, 7)
	mustNotRead(t, "token a/"+strings.Repeat("x", most-11)+"(/;", api.ErrPattern, most-2)
}

// All texts of words that a specification may begin with, and each of those with any other word behind it.
func TestReadOfAllShortTexts(t *testing.T) {
	all := []string{"token", "layout", "start", "longest", "prio", "a", "S", "7", "/x/", "/x*)/", ":", "|", ";"}
	counts := map[api.Errno]int{}
	var each func(ahead string, more int)
	each = func(ahead string, more int) {
		_, e, at := readOf(ahead)
		counts[mustReadTheSame(t, ahead)]++
		if e != api.OK && at < len(ahead) {
			for _, w := range []string{"a", ";", "/)/", "start", "!"} {
				mustReadTheSame(t, ahead+w)
			}
			return
		}
		if more > 0 {
			for _, w := range all {
				each(ahead+w+" ", more-1)
			}
		}
	}
	each("", 8)
	if counts[api.OK] < 100 || counts[api.ErrPattern] < 100 || counts[api.ErrSpec] < 10000 {
		t.Errorf("of the texts are %v", counts)
	}
}

func TestReadOfDrawnTexts(t *testing.T) {
	s := drawn.Source(232)
	counts := map[api.Errno]int{}
	for i := range 30000 {
		l := drawnWords(&s)
		if i%2 == 0 {
			l = spoiled(&s, l)
		}
		text := spread(&s, l)
		if s.Below(20) == 0 {
			at := s.Below(len(text) + 1)
			text = text[:at] + s.Pick("!", "/", "\\", "12345", "\xff", "\n") + text[at:]
		}
		counts[mustReadTheSame(t, text)]++
	}
	if counts[api.OK] < 10000 || counts[api.ErrSpec] < 5000 || counts[api.ErrPattern] < 500 || counts[api.ErrWord] < 500 {
		t.Errorf("of the texts are %v", counts)
	}
}

// P13.3: the positions of the words influence nothing but the offsets of errors.

func TestOtherSeparators(t *testing.T) {
	s := drawn.Source(233)
	counts := map[api.Errno]int{}
	for i := range 20000 {
		l := drawnWords(&s)
		if i%2 == 0 {
			l = spoiled(&s, l)
		}
		plain := strings.Join(l, " ")
		other := spread(&s, l)
		want, e, at := spec.Read(plain)
		counts[e]++
		if e == api.OK {
			mustRead(t, other, want)
			continue
		}
		mustNotRead(t, other, e, placeIn(other, l, at))
	}
	if counts[api.OK] < 8000 || counts[api.ErrSpec] < 5000 || counts[api.ErrPattern] < 300 {
		t.Errorf("of the texts are %v", counts)
	}
}

// placeIn is where an offset of words with single spaces between them is in another text of the same words.
func placeIn(other string, l []string, at int) int {
	starts := startsIn(other)
	for i, w := range l {
		if at < len(w) {
			return starts[i] + at
		}
		at -= len(w) + 1
	}
	return len(other)
}
