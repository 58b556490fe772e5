package spec_test

import (
	"strings"
	"testing"

	"homograph/api"
	"homograph/drawn"
	"homograph/words"
)

// P13.1: what is no specification, and where

// place is what stands ahead of a word, the letters of the words that can stand there, and whether the text may end there.
type place struct {
	ahead, can string
	whole      bool
}

// places are places of every sort.
func places() []place {
	l := []place{
		{"", "TLSn", true},
		{"token", "n", false},
		{"token a", "/", false},
		{"token a /x/", "GP;", false},
		{"token a /x/ longest", "P;", false},
		{"token a /x/ prio", "0", false},
		{"token a /x/ prio 0", "G;", false},
		{"token a /x/ prio 9999", "G;", false},
		{"token a /x/ longest prio", "0", false},
		{"token a /x/ longest prio 5", ";", false},
		{"token a /x/ prio 5 longest", ";", false},
		{"layout", "n", false},
		{"layout a", "/", false},
		{"layout a /x/", ";", false},
		{"start", "n", false},
		{"start a", ";", false},
		{"a", ":", false},
		{"a :", "n|;", false},
		{"a : b", "n|;", false},
		{"a : b a c", "n|;", false},
		{"a : |", "n|;", false},
		{"a : | |", "n|;", false},
		{"a : b |", "n|;", false},
		{"a : b c | | d", "n|;", false},
	}
	for _, d := range []string{"token a /x/;", "token a /x/ longest;", "token a /x/ prio 5;", "token a /x/ prio 5 longest;", "token a /x/ longest prio 5;", "layout a /x/;", "a : ;", "a : b;", "a : b | c;", "token a /x/; a : b; layout c //;"} {
		l = append(l, place{d, "TLSn", true})
	}
	for _, d := range []string{"start a;", "start a; token b /x/;", "a : b; start c;", "start a; b : ;"} {
		l = append(l, place{d, "TLn", true})
	}
	// Each of them once more behind other declarations.
	for _, p := range l {
		l = append(l, place{"token a /x/ longest; a : b | ;\n# start\n" + p.ahead, p.can, p.whole})
	}
	return l
}

// wordsOf are words, by their letters.
func wordsOf() map[byte][]string {
	return map[byte][]string{
		'T': {"token"}, 'L': {"layout"}, 'S': {"start"}, 'G': {"longest"}, 'P': {"prio"},
		'n': {"a", "z", "_", "tokens", "layout_", "Start", "longest0", "pri", "PRIO", strings.Repeat("a", 32)},
		'0': {"0", "7", "0000", "0012", "9999"},
		'/': {"//", "/x/", "/token/", `/\//`, "/;/", "/:/", "/|/", "/a/", "/5/"},
		':': {":"}, '|': {"|"}, ';': {";"},
	}
}

// Of every sort of word it's told whether it can stand in each place.
func TestWordsThatCannotStandThere(t *testing.T) {
	for _, p := range places() {
		for letter, all := range wordsOf() {
			for _, w := range all {
				for _, gap := range []string{" ", "\n\t# x\r\n"} {
					mustStand(t, p, gap, w, strings.IndexByte(p.can, letter) >= 0)
				}
			}
		}
	}
}

// mustStand holds that a word can stand in a place, or that it can't.
func mustStand(t *testing.T, p place, gap, w string, can bool) {
	t.Helper()
	s := p.ahead + gap + w
	if !can {
		for _, behind := range []string{"", ";", " ;", " a", " 5", " /x/", " /*/", " :", " |", " start", " token a /x/;", " # /"} {
			mustNotRead(t, s+behind, api.ErrSpec, len(s)-len(w))
		}
		return
	}
	if letters := lettersIn(s); isWhole(letters) {
		if e := mustReadTheSame(t, s); e != api.OK {
			t.Errorf("Read(%q) is wrong of what is whole", s)
		}
		return
	}
	for _, end := range []string{"", " ", "\n#", " # ;\n"} {
		mustNotRead(t, s+end, api.ErrSpec, len(s+end))
	}
}

// lettersIn are the letters of a text's words.
func lettersIn(s string) string {
	letters := ""
	l, _, _ := words.All(s)
	for _, w := range l {
		letters += letterOf(w)
	}
	return letters
}

func TestWordsThatEndTooEarly(t *testing.T) {
	for _, p := range places() {
		for _, end := range []string{"", " ", "\n", "\r\n\t", "#", "# ;", " # a\n", " #\n \t"} {
			s := p.ahead + end
			if !p.whole {
				mustNotRead(t, s, api.ErrSpec, len(s))
			} else if e := mustReadTheSame(t, s); e != api.OK {
				t.Errorf("Read(%q) = %d", s, e)
			}
		}
	}
}

// Each declaration with its last words left out, wherever it stands.
func TestDeclarationsThatEndTooEarly(t *testing.T) {
	for _, d := range []string{"token a /x+/ ;", "token a /x+/ longest ;", "token a // prio 12 ;", "token a /x/ longest prio 12 ;", "token a /x/ prio 12 longest ;", "layout a / / ;", "start S ;", "S : ;", "S : a ;", "S : a b | | c ;", "S : | ;"} {
		starts := startsIn(d)
		for _, ahead := range []string{"", "T : c;", "token b /y/ longest prio 3;\n", "layout c / /; # d\n", "R:|;Q:R;"} {
			mustReadTheSame(t, ahead+d)
			for _, start := range starts[1:] {
				for _, s := range []string{ahead + d[:start], ahead + strings.TrimRight(d[:start], " "), ahead + d[:start] + "# ;\n\n"} {
					mustNotRead(t, s, api.ErrSpec, len(s))
				}
			}
		}
	}
}

func TestReadOfTextsThatAreNoWords(t *testing.T) {
	for s, want := range map[string]int{
		"!":                                      0,
		"token a /x/; !":                         13,
		"token a /x":                             8,
		"token a /x\n/;":                         8,
		"token a /x/ prio 12345;":                17,
		"token a /x/ prio 00000;":                17,
		"S : a = b;":                             6,
		"S : a, b;":                              5,
		"S : 'a';":                               4,
		"S : é;":                                 4,
		"\x00":                                   0,
		"start S; /\\/":                          9,
		strings.Repeat("a", 33) + ":;":           0,
		"start " + strings.Repeat("a", 33) + ";": 6,
		// Whatever is wrong with the words ahead of it.
		"; !":                      2,
		"token token; !":           13,
		"token a /*/; !":           13,
		"start S; start S; 12345":  18,
		"S : a longest prio /(/ /": 23,
		"5 5 5 token\n-":           12,
	} {
		mustNotRead(t, s, api.ErrWord, want)
	}
	for _, unit := range []string{" ", ";", "a", "S:;", "#", "!", "/", "\n"} {
		for _, length := range []int{api.MaxText + 1, api.MaxText + 2, 2 * api.MaxText} {
			mustNotRead(t, strings.Repeat(unit, length)[:length], api.ErrLimit, 0)
		}
	}
	mustNotRead(t, "token a /x/;"+strings.Repeat(" ", api.MaxText-11), api.ErrLimit, 0)
	mustReadTheSame(t, "token a /x/;"+strings.Repeat(" ", api.MaxText-12))
	mustNotRead(t, "; token a /*/"+strings.Repeat(" ", api.MaxText), api.ErrLimit, 0)
}

// What is there a second time is told where it begins, whatever stands behind it.
func TestReadOfWhatIsThereTwice(t *testing.T) {
	for s, want := range map[string]int{
		"start S; start S;":                                 9,
		"start S; start T;":                                 9,
		"start S; start":                                    9,
		"start S; start start":                              9,
		"start S; start 5;":                                 9,
		"start S;start;":                                    8,
		"start S start T;":                                  8,
		"S : a; start S; T : b;\nstart S;":                  23,
		"token a /x/ longest longest;":                      20,
		"token a /x/ longest longest":                       20,
		"token a /x/ longest prio 1 longest;":               27,
		"token a /x/ prio 1 longest longest;":               27,
		"token a /x/ longest longest prio 1;":               20,
		"token a /x/ prio 1 prio 1;":                        19,
		"token a /x/ prio 1 prio 2;":                        19,
		"token a /x/ prio 0 prio 0;":                        19,
		"token a /x/ prio 0 prio;":                          19,
		"token a /x/ prio 1 prio":                           19,
		"token a /x/ prio 1 longest prio 2;":                27,
		"token a /x/ longest prio 1 prio 2;":                27,
		"token a /x/ longest; token a /x/ longest longest;": 41,
	} {
		mustNotRead(t, s, api.ErrSpec, want)
	}
}

// Where a word cannot stand, a reserved name is none of the others, and a Pattern's Text is no name.
func TestReadOfWordsThatAreTakenForOthers(t *testing.T) {
	for s, want := range map[string]int{
		"Token a /x/;":              6,
		"TOKEN a /x/;":              6,
		"end S;":                    4,
		"skip a /x/;":               5,
		"rule S : a;":               5,
		"token a /x/ shortest;":     12,
		"tokens a /x/;":             7,
		"/token/ a /x/;":            0,
		"/start/ S;":                0,
		"/S/ : a;":                  0,
		"S /:/ a;":                  2,
		"S : a /|/ b;":              6,
		"S : a /;/":                 6,
		"S : /a/;":                  4,
		"S : a longest;":            6,
		"S : prio 5;":               4,
		"S : a | start;":            8,
		"S : a layout | b;":         6,
		"S : T : a;":                6,
		"S | a;":                    2,
		"S a;":                      2,
		"S ;":                       2,
		"S;":                        1,
		"longest : a;":              0,
		"prio : a;":                 0,
		"token : a;":                6,
		"start : a;":                6,
		"layout : a;":               7,
		"token token /x/;":          6,
		"layout layout /x/;":        7,
		"start start;":              6,
		"start S T;":                8,
		"start S : a;":              8,
		"start /S/;":                6,
		"start 5;":                  6,
		"token a b /x/;":            8,
		"token a : /x/;":            8,
		"token a /x/ /y/;":          12,
		"token a /x//y/;":           11,
		"token a x;":                8,
		"token a longest /x/;":      8,
		"token longest a /x/;":      6,
		"token /x/ a;":              6,
		"token a prio 5 /x/;":       8,
		"token a /x/ 5;":            12,
		"token a /x/ prio longest;": 17,
		"token a /x/ prio;":         16,
		"token a /x/ prio a;":       17,
		"token a /x/ prio /5/;":     17,
		"token a /x/ prio 5 6;":     19,
		"token a /x/ prio 5a;":      18,
		"token a /x/ /longest/;":    12,
		"token a /x/ /prio/ 5;":     12,
		"token a /x/ Longest;":      12,
		"token a /x/ layout;":       12,
		"token a /x/ | /y/;":        12,
		"layout a /x/ longest;":     13,
		"layout a /x/ prio 5;":      13,
		"layout a /x/ prio 0;":      13,
		"layout a;":                 8,
		";":                         0,
		";;":                        0,
		"S : a;;":                   6,
		"; S : a;":                  0,
		"|":                         0,
		":":                         0,
		"5;":                        0,
		"5 : a;":                    0,
		"/x/;":                      0,
		"S : a b 5;":                8,
	} {
		mustNotRead(t, s, api.ErrSpec, want)
		mustNotRead(t, "T : b; # c\n"+s, api.ErrSpec, 11+want)
	}
}

// badShapes are texts of Patterns that are no patterns, and where.
func badShapes() map[string]int {
	return map[string]int{
		"*": 0, "a)": 1, "(": 1, "(a": 2, "a{3,2}": 2, "a{": 2, "a{1": 3, "[b-a]": 1, "[a": 2, "[": 1, `\q`: 0, `ab\x4`: 2, `a\/[\q]`: 4,
		"\x80": 0, "a\xff": 1, "abé": 2, "x\x00": 1, "a\tb": 1, "~": 1, "a|*": 2, "]": 0, "a{33}": 2, "~~~": 3,
		strings.Repeat("~", 64) + "a": 65, "a" + strings.Repeat("*", 64): 65, strings.Repeat("(", 33): 32, `\ `: 0, "#)": 1, `\/)`: 2,
	}
}

func TestReadOfBadShapes(t *testing.T) {
	for text, at := range badShapes() {
		for _, ahead := range []string{"token a ", "token a", "layout b ", "start S; S : a; token a /x/ longest;\n# /(/\n layout b "} {
			want := len(ahead) + 1 + at
			for _, behind := range []string{"", ";", " longest;", " prio 5 longest;", " prio prio", " longest longest;", " /x/;", " token;", "; token b /(/;", "; ;", " 5", " : a", "#"} {
				mustNotRead(t, ahead+"/"+text+"/"+behind, api.ErrPattern, want)
			}
		}
	}
}

// The first problem is told, whatever the others are.
func TestReadOfSeveralProblems(t *testing.T) {
	for text := range badShapes() {
		bad := "/" + text + "/"
		// A word that cannot stand there is ahead of the pattern, or is the Pattern itself.
		for _, ahead := range []string{"", "token ", "token a /x/ ", "token a /x/ longest ", "token a /x/ prio ", "token a /x/ prio 5 ", "token a /x/; ", "layout ", "layout a /x/ ", "start ", "start S ", "start S; ", "S ", "S : ", "S : a ", "S : a | ", "S : a; "} {
			mustNotRead(t, ahead+bad, api.ErrSpec, len(ahead))
			mustNotRead(t, ahead+bad+";", api.ErrSpec, len(ahead))
			mustNotRead(t, "token b /y/;"+ahead+bad+" token a /*/;", api.ErrSpec, 12+len(ahead))
		}
		for ahead, want := range map[string]int{"; token a ": 0, "token token ": 6, "token a b ": 8, "S : 5; token a ": 4, "start S; start S; token a ": 9, "token b /x/ longest longest; layout l ": 20, "token a /x/ prio; token b ": 16, "layout l /x/ prio 5; layout m ": 13} {
			mustNotRead(t, ahead+bad+";", api.ErrSpec, want)
		}
	}
	for s, want := range map[string]int{
		"token a /*/; token b /(/;":                      9,
		"token b /(/; token a /*/;":                      10,
		"layout a /x/; layout b /x*)/; token c /[b-a]/;": 26,
		"token a /x/; token b /)/ prio":                  22,
	} {
		mustNotRead(t, s, api.ErrPattern, want)
	}
}

// Each byte in a Pattern is a problem just where it is none of a pattern, and at its own offset.
func TestReadOfShapesOfEachByte(t *testing.T) {
	s := drawn.Source(234)
	for b := range 256 {
		one := string([]byte{byte(b)})
		for _, text := range []string{one, "a" + one + "b", "[" + one + "]", `\` + one, "ab" + one} {
			gap := s.Gap()
			mustReadTheSame(t, "token a"+gap+"/"+text+"/;")
			mustReadTheSame(t, gap+"layout a/"+text+"/"+gap+";")
		}
	}
}
