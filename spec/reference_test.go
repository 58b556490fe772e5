package spec_test

import (
	"regexp"
	"slices"
	"strconv"
	"strings"
	"testing"

	"homograph/api"
	"homograph/drawn"
	"homograph/pattern"
	"homograph/regex"
	"homograph/spec"
	"homograph/words"
)

// shape is the pattern of a text. A test that names a text that has none is wrong, and ends.
func shape(text string) api.Node {
	n, e, _ := pattern.Parse(text)
	if e != api.OK {
		panic("no pattern: " + text)
	}
	return n
}

func token(name, text string) api.Token { return api.Token{Name: name, Pattern: shape(text)} }

func rule(left string, right ...string) api.Rule { return api.Rule{Left: left, Right: right} }

func sameTokens(a, b api.Token) bool {
	return a.Name == b.Name && regex.Same(a.Pattern, b.Pattern) && a.Layout == b.Layout && a.Longest == b.Longest && a.Prio == b.Prio
}

func sameRules(a, b api.Rule) bool { return a.Left == b.Left && slices.Equal(a.Right, b.Right) }

func sameSpecs(a, b api.Spec) bool {
	return slices.EqualFunc(a.Tokens, b.Tokens, sameTokens) && slices.EqualFunc(a.Rules, b.Rules, sameRules) && a.Start == b.Start
}

// mustRead holds that a text is a certain specification.
func mustRead(t *testing.T, s string, want api.Spec) {
	t.Helper()
	if got, e, at := spec.Read(s); !sameSpecs(got, want) || e != api.OK || at != 0 {
		t.Errorf("Read(%.200q) = %.500v, %d, %d, want %.500v", s, got, e, at, want)
	}
}

// mustNotRead holds that a text is no specification, and what is wrong and where.
func mustNotRead(t *testing.T, s string, want api.Errno, wantAt int) {
	t.Helper()
	got, e, at := spec.Read(s)
	if got.Tokens != nil || got.Rules != nil || got.Start != "" || e != want || at != wantAt {
		t.Errorf("Read(%.200q) = %.500v, %d, %d, want %d, %d", s, got, e, at, want, wantAt)
	}
}

// The chapter once more: a specification is a text of letters, one for each word, that a regular expression of the library accepts.

// letterOf is a reserved name's great letter (G of longest), n of another name, 0 of a Number, / of a Pattern, and the Mark itself.
func letterOf(w words.Word) string {
	switch w.Kind {
	case words.Number:
		return "0"
	case words.Pattern:
		return "/"
	case words.Mark:
		return w.Text
	}
	if i := slices.Index([]string{"token", "layout", "start", "longest", "prio"}, w.Text); i >= 0 {
		return "TLSGP"[i : i+1]
	}
	return "n"
}

var wholeForm = regexp.MustCompile(`^(?:Tn/(?:|G|P0|GP0|P0G);|Ln/;|Sn;|n:n*(?:\|n*)*;)*$`)

func isWhole(letters string) bool {
	return wholeForm.MatchString(letters) && strings.Count(letters, "S") < 2
}

// begins tells whether a specification can begin with letters: what ends it then is one of a few texts.
func begins(letters string) bool {
	return slices.ContainsFunc([]string{"", "n/;", "n;", "/;", ":;", "0;", ";"}, func(rest string) bool { return isWhole(letters + rest) })
}

// problemOf is the first problem of a text's words, and where it is; OK and 0 if there is none.
func problemOf(s string, l []words.Word) (api.Errno, int) {
	letters := ""
	for _, w := range l {
		letters += letterOf(w)
		if !begins(letters) {
			return api.ErrSpec, w.At
		}
		if w.Kind == words.Pattern {
			if _, e, at := pattern.Parse(w.Text); e != api.OK {
				return api.ErrPattern, w.At + len("/") + at
			}
		}
	}
	if !isWhole(letters) {
		return api.ErrSpec, len(s)
	}
	return api.OK, 0
}

// partsOf are the pieces of words between those of a Mark.
func partsOf(l []words.Word, mark string) [][]words.Word {
	parts := [][]words.Word{nil}
	for _, w := range l {
		if letterOf(w) == mark {
			parts = append(parts, nil)
			continue
		}
		last := len(parts) - 1
		parts[last] = append(parts[last], w)
	}
	return parts
}

// specOf is the specification of words that have no problem.
func specOf(l []words.Word) api.Spec {
	var s api.Spec
	for _, part := range partsOf(l, ";") {
		if len(part) == 0 {
			continue
		}
		switch letterOf(part[0]) {
		case "T", "L":
			s.Tokens = append(s.Tokens, tokenOf(part))
		case "S":
			s.Start = part[1].Text
		case "n":
			for _, sequence := range partsOf(part[2:], "|") {
				r := rule(part[0].Text)
				for _, w := range sequence {
					r.Right = append(r.Right, w.Text)
				}
				s.Rules = append(s.Rules, r)
			}
		}
	}
	return s
}

// tokenOf is the token of a declaration's words.
func tokenOf(l []words.Word) api.Token {
	t := token(l[1].Text, l[2].Text)
	t.Layout = letterOf(l[0]) == "L"
	for _, w := range l[3:] {
		switch letterOf(w) {
		case "G":
			t.Longest = true
		case "0":
			t.Prio, _ = strconv.Atoi(w.Text)
		}
	}
	return t
}

// readOf is what Read should tell.
func readOf(s string) (api.Spec, api.Errno, int) {
	l, e, at := words.All(s)
	if e == api.OK {
		e, at = problemOf(s, l)
	}
	if e != api.OK {
		return api.Spec{}, e, at
	}
	return specOf(l), api.OK, 0
}

// mustReadTheSame holds Read of a text against readOf, and tells the error.
func mustReadTheSame(t *testing.T, s string) api.Errno {
	t.Helper()
	want, e, at := readOf(s)
	if e != api.OK {
		mustNotRead(t, s, e, at)
		return e
	}
	mustRead(t, s, want)
	return e
}

// namesOf is what Names should tell: all names, and then those taken out again that were there before.
func namesOf(s api.Spec) []string {
	var all []string
	for _, t := range s.Tokens {
		all = append(all, t.Name)
	}
	for _, r := range s.Rules {
		all = append(all, r.Left)
	}
	if s.Start != "" {
		all = append(all, s.Start)
	}
	for _, r := range s.Rules {
		all = append(all, r.Right...)
	}
	var l []string
	for i, name := range all {
		if !slices.Contains(all[:i], name) {
			l = append(l, name)
		}
	}
	return l
}

// Drawn specifications are rows of words, each as it stands in a text.

func drawnName(s *drawn.Source) string {
	return s.Pick("a", "b", "c", "S", "T", "_1", "tokens", "Start", "a_name_of_just_thirty_two_bytes_")
}

func drawnShape(s *drawn.Source) string {
	return s.Pick("/x/", "/[a-z]+/", `/\//`, "//", "/a|b&~c/", "/(ab)*{2}/", `/\x80#;:/`, "/token/")
}

// badShape is a word that is a Pattern, and no pattern.
func badShape(s *drawn.Source) string {
	return s.Pick("/*/", "/ab(/", "/[b-a]/", `/x\q/`, "/\x80/", "/a{3,2}/", "/~~/", "/"+strings.Repeat("~", 64)+"a/")
}

func drawnNumber(s *drawn.Source) string { return s.Pick("0", "1", "00", "0010", "9999", "32") }

// drawnDeclaration is the words of a declaration.
func drawnDeclaration(s *drawn.Source) []string {
	switch s.Below(8) {
	case 0, 1, 2:
		l := []string{"token", drawnName(s), drawnShape(s)}
		first := s.Below(2)
		for i := range 2 {
			if s.Below(2) == 0 {
				continue
			}
			if i == first {
				l = append(l, "longest")
			} else {
				l = append(l, "prio", drawnNumber(s))
			}
		}
		return append(l, ";")
	case 3:
		return []string{"layout", drawnName(s), drawnShape(s), ";"}
	case 4:
		return []string{"start", drawnName(s), ";"}
	}
	l := []string{drawnName(s), ":"}
	for range s.Below(6) {
		if s.Below(3) == 0 {
			l = append(l, "|")
		} else {
			l = append(l, drawnName(s))
		}
	}
	return append(l, ";")
}

// drawnWords is the words of several declarations, of which at most one is a start.
func drawnWords(s *drawn.Source) []string {
	var l []string
	for range s.Below(7) {
		if d := drawnDeclaration(s); d[0] != "start" || !slices.Contains(l, "start") {
			l = append(l, d...)
		}
	}
	return l
}

// anyWord is a word of any sort.
func anyWord(s *drawn.Source) string {
	return s.Pick("token", "layout", "start", "longest", "prio", drawnName(s), drawnShape(s), badShape(s), drawnNumber(s), ":", "|", ";")
}

// spoiled is words of which a few were left out, added, or put in the place of another one.
func spoiled(s *drawn.Source, l []string) []string {
	l = slices.Clone(l)
	for range 1 + s.Below(2) {
		i := s.Below(len(l) + 1)
		switch s.Below(5) {
		case 0:
			l = l[:i]
		case 1:
			l = slices.Insert(l, i, anyWord(s))
		case 2, 3:
			spoilShape(s, l[i:])
		default:
			to := min(i+1, len(l))
			l = slices.Replace(l, i, to, slices.Repeat([]string{anyWord(s)}, s.Below(2))...)
		}
	}
	return l
}

// spoilShape puts a word that is no pattern in the place of the first one.
func spoilShape(s *drawn.Source, l []string) {
	if i := slices.IndexFunc(l, func(w string) bool { return w[0] == '/' }); i >= 0 {
		l[i] = badShape(s)
	}
}

// isPart tells whether a byte may stand in a name.
func isPart(b byte) bool { return words.IsName("a" + string([]byte{b})) }

// mustPart tells whether two words would be other ones without a gap between them.
func mustPart(first, second string) bool {
	isNumber := '0' <= first[0] && first[0] <= '9'
	return isPart(first[len(first)-1]) && isPart(second[0]) && !(isNumber && words.IsName(second[:1]))
}

// spread is a text of words, with gaps wherever one must be, and in other places too.
func spread(s *drawn.Source, l []string) string {
	var out strings.Builder
	for i, w := range l {
		if i > 0 && mustPart(l[i-1], w) || s.Below(3) == 0 {
			out.WriteString(s.Gap())
		}
		out.WriteString(w)
	}
	return out.String() + s.Pick("", "", "#", "# ;", "\n", " \t#a\n")
}

// startsIn is where the words of a text begin.
func startsIn(text string) []int {
	var starts []int
	l, _, _ := words.All(text)
	for _, w := range l {
		starts = append(starts, w.At)
	}
	return starts
}
