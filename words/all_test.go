package words_test

import (
	"slices"
	"strings"
	"testing"

	"homograph/api"
	"homograph/drawn"
	"homograph/words"
)

// P12.1: All

func TestKinds(t *testing.T) {
	kinds := []int{words.Name, words.Number, words.Pattern, words.Mark}
	if !slices.Equal(kinds, []int{0, 1, 2, 3}) {
		t.Errorf("the kinds are %v", kinds)
	}
}

func TestAll(t *testing.T) {
	mustSplit(t, "A : b|c ; # x", name("A", 0), mark(":", 2), name("b", 4), mark("|", 5), name("c", 6), mark(";", 8))
	mustSplit(t, "token a /x+/ longest prio 10;\n",
		name("token", 0), name("a", 6), pattern("x+", 8), name("longest", 13), name("prio", 21), number("10", 26), mark(";", 28))
	mustSplit(t, "layout s / /; start S;", name("layout", 0), name("s", 7), pattern(" ", 9), mark(";", 12), name("start", 14), name("S", 20), mark(";", 21))
	mustSplit(t, "a", name("a", 0))
	mustSplit(t, "7", number("7", 0))
	mustSplit(t, "/7/", pattern("7", 0))
	mustSplit(t, ";", mark(";", 0))
}

func TestAllOfNoWords(t *testing.T) {
	for _, s := range []string{"", " ", "\t", "\r", "\n", "\r\n", " \t\r\n \t\r\n", "#", "##", "# a", "#\n", "# a\n# b\n", " # /\n\t#", "#\r", "#\n\r\n", "\n#\\", "#\x00\xff\x80é"} {
		mustSplit(t, s)
		if l, _, _ := words.All(s); l != nil {
			t.Errorf("All(%q) is not nil", s)
		}
	}
}

// Each letter, each digit and `_` in each place of a Name, and each digit in each place of a Number; no other byte.
func TestBytesOfNamesAndNumbers(t *testing.T) {
	const letters = "abcdefghijklmnopqrstuvwxyzABCDEFGHIJKLMNOPQRSTUVWXYZ_"
	const digits = "0123456789"
	for _, b := range everyByte() {
		isLetter, isDigit := strings.Contains(letters, b), strings.Contains(digits, b)
		if isLetter {
			mustSplit(t, b, name(b, 0))
			mustSplit(t, b+b, name(b+b, 0))
			mustSplit(t, b+"1"+b, name(b+"1"+b, 0))
			mustSplit(t, "1"+b, number("1", 0), name(b, 1))
		}
		if isDigit {
			mustSplit(t, b, number(b, 0))
			mustSplit(t, b+b+b+b, number(b+b+b+b, 0))
			mustSplit(t, "a"+b, name("a"+b, 0))
			mustSplit(t, "a"+b+"a", name("a"+b+"a", 0))
		}
		if got := words.IsName(b); got != isLetter {
			t.Errorf("IsName(%q) = %t", b, got)
		}
		if got := words.IsName("a" + b); got != (isLetter || isDigit) {
			t.Errorf("IsName(%q) = %t", "a"+b, got)
		}
	}
}

func TestLongNames(t *testing.T) {
	for _, first := range []string{"a", "Z", "_"} {
		for _, rest := range []string{"a", "Z", "_", "0", "9"} {
			most := first + strings.Repeat(rest, 31)
			mustSplit(t, most, name(most, 0))
			mustSplit(t, most+" "+most+";", name(most, 0), name(most, 33), mark(";", 65))
			mustSplit(t, most+"/0/"+most, name(most, 0), pattern("0", 32), name(most, 35))
			for _, more := range []string{"a", "Z", "_", "0", "9", "bb", strings.Repeat("a", 31), strings.Repeat("a", 32), strings.Repeat("0", 1000)} {
				mustNotSplit(t, most+more, 0)
				mustNotSplit(t, most+more+" ;", 0)
				mustNotSplit(t, "0"+most+more, 1)
				mustNotSplit(t, most+" "+most+more+" !", 33)
			}
		}
	}
}

func TestLongNumbers(t *testing.T) {
	for _, s := range []string{"0", "9", "00", "10", "000", "999", "0000", "0001", "1000", "9999"} {
		mustSplit(t, s, number(s, 0))
		mustSplit(t, s+"a", number(s, 0), name("a", len(s)))
		mustSplit(t, s+" 1", number(s, 0), number("1", len(s)+1))
		mustSplit(t, s+"/1/2", number(s, 0), pattern("1", len(s)), number("2", len(s)+3))
	}
	for _, s := range []string{"00000", "00001", "10000", "99999", "123456", "12345678", "123456789", strings.Repeat("0", 1000)} {
		mustNotSplit(t, s, 0)
		mustNotSplit(t, s+"a", 0)
		mustNotSplit(t, s+" 1", 0)
		mustNotSplit(t, " ;1 "+s+" !", 4)
		mustNotSplit(t, "/"+s+"/"+s, len(s)+2)
		mustSplit(t, "a"+s[:min(len(s), 31)], name("a"+s[:min(len(s), 31)], 0))
	}
}

func TestPatterns(t *testing.T) {
	for _, text := range []string{
		"", "a", " ", "  a  ", "\t", "#", "a#b", "# ;", ":|;", "1", "12345", strings.Repeat("a", 33), strings.Repeat("b", 5000),
		`\/`, `\/\/`, `a\/b`, `\\`, `\\\\`, `\\\/`, `\/\\`, `\a`, `\n`, `\r\n`, `\ `, `\#`, "\\\t", "\\\x00", "\\\xff", `[`, `(`, "*", "\x00", "\v\f", "\x7f", "\x80", "\xff", "\xc3", "é", "\\é", "\xc3\\/",
	} {
		l := len(text) + 2
		mustSplit(t, "/"+text+"/", pattern(text, 0))
		mustSplit(t, " /"+text+"/;", pattern(text, 1), mark(";", l+1))
		mustSplit(t, "a/"+text+"/b", name("a", 0), pattern(text, 1), name("b", l+1))
		mustSplit(t, "/"+text+"//"+text+"/", pattern(text, 0), pattern(text, l))
		mustSplit(t, "/"+text+"/\n#/\n"+"0", pattern(text, 0), number("0", l+4))
		mustNotSplit(t, "/"+text+"/\n/", l+1)
		mustNotSplit(t, "/"+text+"/!/"+text+"/", l)
	}
}

func TestPatternsThatAreNotClosed(t *testing.T) {
	for _, s := range []string{"/", "/a", "/ ", "/#", "/a b", "/;", `/\`, `/\\`, `/\/`, `/a\/`, `/\\\`, `/\\\/`, `/a\/b`, "/\n", "/\r", "/a\n", "/a\r", "/\x00", "/\xff", "/\\\xff"} {
		mustNotSplit(t, s, 0)
		mustNotSplit(t, " \n"+s, 2)
		mustNotSplit(t, "a"+s, 1)
		mustNotSplit(t, "/b/"+s, 3)
		mustNotSplit(t, "12;"+s, 3)
		for _, end := range []string{"\n", "\r", "\r\n", "\n\r"} {
			for _, behind := range []string{"", "/", "a/", "/;", "a b", "/ /", "\n/"} {
				mustNotSplit(t, s+end+behind, 0)
				mustNotSplit(t, "//"+s+end+behind, 2)
				// Escaped, a line end is one as well.
				mustNotSplit(t, s+"\\"+end+behind, 0)
				mustNotSplit(t, s+"\\\\"+end+behind, 0)
			}
		}
	}
}

// A slash behind an even number of backslashes closes, and one behind an odd number doesn't.
func TestRowsOfBackslashes(t *testing.T) {
	for n := range 20 {
		row := strings.Repeat(`\`, n)
		mustNotSplit(t, "/"+row, 0)
		mustNotSplit(t, "/"+row+"\n/", 0)
		if n%2 == 0 {
			mustSplit(t, "/"+row+"/", pattern(row, 0))
			mustSplit(t, "/"+row+"/ a", pattern(row, 0), name("a", n+3))
			mustNotSplit(t, "/"+row+"//", n+2)
			continue
		}
		mustNotSplit(t, "/"+row+"/", 0)
		mustSplit(t, "/"+row+"//", pattern(row+"/", 0))
		mustSplit(t, "/"+row+"/ a/", pattern(row+"/ a", 0))
	}
	mustNotSplit(t, `\`, 0)
	mustNotSplit(t, `a\`, 1)
	mustNotSplit(t, `// \/a/`, 3)
}

// Each byte as a Pattern, escaped in one, and behind one.
func TestBytesOfPatterns(t *testing.T) {
	for _, b := range everyByte() {
		switch b {
		case "\n", "\r":
			mustNotSplit(t, "/"+b+"/", 0)
			mustNotSplit(t, "/a"+b+"b/", 0)
			mustNotSplit(t, "/\\"+b+"/", 0)
		case "/":
			mustNotSplit(t, "/"+b+"/", 2)
			mustSplit(t, "/a"+b+"b/c/", pattern("a", 0), name("b", 3), pattern("c", 4))
			mustSplit(t, "/\\"+b+"/", pattern("\\/", 0))
		case "\\":
			mustNotSplit(t, "/"+b+"/", 0)
			mustSplit(t, "/a"+b+"b/", pattern("a\\b", 0))
			mustSplit(t, "/\\"+b+"/", pattern("\\\\", 0))
		default:
			mustSplit(t, "/"+b+"/", pattern(b, 0))
			mustSplit(t, "/a"+b+"b/", pattern("a"+b+"b", 0))
			mustSplit(t, "/\\"+b+"/", pattern("\\"+b, 0))
			mustNotSplit(t, "/\\"+b, 0)
		}
	}
}

// Each byte by itself, behind a word, and between two: what separates, what is a word, and what is none.
func TestBytesBetweenWords(t *testing.T) {
	for _, b := range everyByte() {
		switch {
		case strings.Contains(" \t\r\n", b):
			mustSplit(t, b)
			mustSplit(t, b+b+"a"+b+b+"b"+b, name("a", 2), name("b", 5))
			mustSplit(t, "a"+b+"1", name("a", 0), number("1", 2))
			mustSplit(t, "1"+b+"1", number("1", 0), number("1", 2))
		case b == "#":
			mustSplit(t, b)
			mustSplit(t, "a"+b+"b", name("a", 0))
		case strings.Contains(":|;", b):
			mustSplit(t, b, mark(b, 0))
			mustSplit(t, b+b, mark(b, 0), mark(b, 1))
			mustSplit(t, "a"+b+"b", name("a", 0), mark(b, 1), name("b", 2))
			mustSplit(t, "1"+b+"//", number("1", 0), mark(b, 1), pattern("", 2))
		case b == "/":
			mustNotSplit(t, b, 0)
			mustNotSplit(t, "a"+b+"b", 1)
		case "0" <= b && b <= "9", "a" <= b && b <= "z", "A" <= b && b <= "Z", b == "_":
			mustSplit(t, "a"+b+"b", name("a"+b+"b", 0))
		default:
			mustNotSplit(t, b, 0)
			mustNotSplit(t, b+b, 0)
			mustNotSplit(t, "a"+b, 1)
			mustNotSplit(t, "a"+b+"b", 1)
			mustNotSplit(t, "a "+b+" b", 2)
			mustNotSplit(t, "1"+b+"1", 1)
			mustNotSplit(t, ";"+b+";", 1)
			mustNotSplit(t, "//"+b+"//", 2)
			mustNotSplit(t, "#\n"+b+"/", 2)
		}
		if b != "\n" {
			mustSplit(t, "#"+b+"a\nb", name("b", 4))
			mustSplit(t, "a#"+b, name("a", 0))
			mustSplit(t, "#a"+b+"\nb", name("b", 4))
		}
	}
	for _, s := range []string{"é", "\xc3", "\xa9\xc3", "\xff\xfe", "\u00a0", "\u2028", "\u0085", "\ufeff", "١", "ª"} {
		mustNotSplit(t, s, 0)
		mustNotSplit(t, "a"+s+"b", 1)
		mustNotSplit(t, "1 "+s+"1", 2)
		mustSplit(t, "#"+s)
	}
}

func TestComments(t *testing.T) {
	mustSplit(t, "a#b\nc", name("a", 0), name("c", 4))
	mustSplit(t, "a # b # c\nd # e", name("a", 0), name("d", 10))
	mustSplit(t, "a#b\rc", name("a", 0))
	mustSplit(t, "a#b\r\nc", name("a", 0), name("c", 5))
	mustSplit(t, "#\na", name("a", 2))
	mustSplit(t, "#a\n#b\n#c\n;#", mark(";", 9))
	mustSplit(t, "a#/\nb/c/", name("a", 0), name("b", 4), pattern("c", 5))
	mustSplit(t, "a # /\\\n;", name("a", 0), mark(";", 7))
	mustSplit(t, "a # 12345 ! "+strings.Repeat("a", 40)+"\n;", name("a", 0), mark(";", 53))
	mustSplit(t, "1#2\n3", number("1", 0), number("3", 4))
	mustSplit(t, "/a#b/#/", pattern("a#b", 0))
	mustSplit(t, "/#/", pattern("#", 0))
	mustNotSplit(t, "/a#b", 0)
	mustNotSplit(t, "#/\n/#", 3)
	mustNotSplit(t, "/#\n/", 0)
	mustNotSplit(t, "a # b\n!", 6)
}

func TestWordsWithoutSeparators(t *testing.T) {
	mustSplit(t, "a:b|c;", name("a", 0), mark(":", 1), name("b", 2), mark("|", 3), name("c", 4), mark(";", 5))
	mustSplit(t, "1a", number("1", 0), name("a", 1))
	mustSplit(t, "1_", number("1", 0), name("_", 1))
	mustSplit(t, "1a2", number("1", 0), name("a2", 1))
	mustSplit(t, "1234a5678b", number("1234", 0), name("a5678b", 4))
	mustSplit(t, "a1", name("a1", 0))
	mustSplit(t, "a 1", name("a", 0), number("1", 2))
	mustSplit(t, "12", number("12", 0))
	mustSplit(t, "1 2", number("1", 0), number("2", 2))
	mustSplit(t, "ab", name("ab", 0))
	mustSplit(t, "a b", name("a", 0), name("b", 2))
	mustSplit(t, "a#\nb", name("a", 0), name("b", 3))
	mustSplit(t, "////", pattern("", 0), pattern("", 2))
	mustSplit(t, "//a//", pattern("", 0), name("a", 2), pattern("", 3))
	mustSplit(t, "/a/1/b/c", pattern("a", 0), number("1", 3), pattern("b", 4), name("c", 7))
	mustSplit(t, "::||;;", mark(":", 0), mark(":", 1), mark("|", 2), mark("|", 3), mark(";", 4), mark(";", 5))
	mustSplit(t, "tokena/b/longestprio1;", name("tokena", 0), pattern("b", 6), name("longestprio1", 9), mark(";", 21))
	mustNotSplit(t, "///", 2)
	mustNotSplit(t, "1234 12345", 5)
	mustNotSplit(t, "1234512a", 0)
}

// The first thing that is no word is told, whatever stands behind it, and nothing of what stands ahead of it.
func TestErrorBehindWords(t *testing.T) {
	for _, wrong := range []string{"!", "\x00", "é", "\xff", "\\", "12345", strings.Repeat("a", 33), "/", "/\\/", "/\n", "-1"} {
		for _, ahead := range []string{"", " ", "\n", "a ", "a\n", "1 ", "token a /b/;", "#!\n", "/!/ ", "// : | ; # \n\r\n\t"} {
			for _, behind := range []string{"", " ", "\n", " a", ";", "\n!", " 12345"} {
				mustNotSplit(t, ahead+wrong+behind, len(ahead))
				mustNotSplit(t, ahead+ahead+wrong+behind, 2*len(ahead))
			}
		}
	}
}

func TestTextsThatAreTooLong(t *testing.T) {
	const most = 65536
	if api.MaxText != most {
		t.Fatal("another MaxText")
	}
	marks := make([]words.Word, most)
	for i := range marks {
		marks[i] = mark(";", i)
	}
	mustSplit(t, strings.Repeat(";", most), marks...)
	mustSplit(t, strings.Repeat(";", most-1), marks[:most-1]...)
	mustSplit(t, strings.Repeat(" ", most))
	mustSplit(t, "#"+strings.Repeat("\x00", most-1))
	mustSplit(t, strings.Repeat(" ", most-1)+"a", name("a", most-1))
	mustSplit(t, "/"+strings.Repeat("\\", most-2)+"/", pattern(strings.Repeat("\\", most-2), 0))
	mustNotSplit(t, strings.Repeat("a", most), 0)
	mustNotSplit(t, strings.Repeat("1", most), 0)
	mustNotSplit(t, "/"+strings.Repeat("a", most-1), 0)
	mustNotSplit(t, "/"+strings.Repeat("\\", most-1), 0)
	mustNotSplit(t, strings.Repeat(";", most-1)+"!", most-1)
	for _, b := range []string{";", " ", "#", "a", "1", "/", "!", "\n"} {
		for _, length := range []int{most + 1, most + 2, 2 * most, 1 << 22} {
			if l, e, at := words.All(strings.Repeat(b, length)); l != nil || e != api.ErrLimit || at != 0 {
				t.Errorf("All of %d times %q = %d words, %d, %d", length, b, len(l), e, at)
			}
		}
	}
	if l, e, at := words.All("!" + strings.Repeat(" ", most)); l != nil || e != api.ErrLimit || at != 0 {
		t.Errorf("All of a long text that begins with no word = %d words, %d, %d", len(l), e, at)
	}
}

// All texts of few bytes, of alphabets that have all that matters.
func TestAllOfAllShortTexts(t *testing.T) {
	all := strings.Join(everyByte(), "")
	counts := map[int]int{}
	for _, alphabet := range []struct {
		bytes string
		most  int
	}{{all, 2}, {"a1/\\#\n\r ;\xff", 5}, {"/\\\na", 8}, {"/#\n;", 8}, {"a1 ", 9}} {
		for _, s := range drawn.Texts(alphabet.bytes, alphabet.most) {
			counts[mustSplitTheSame(t, s)]++
		}
	}
	for n := -1; n <= 5; n++ {
		if counts[n] < 500 {
			t.Errorf("only %d texts have %d words", counts[n], n)
		}
	}
}

// drawnText is words with gaps between them, of which some are missing, and maybe something wrong.
func drawnText(s *drawn.Source) string {
	var out strings.Builder
	for range s.Below(12) {
		if s.Below(3) > 0 {
			out.WriteString(s.Gap())
		}
		out.WriteString(joinOf([]words.Word{drawnWord(s)}))
		if s.Below(60) == 0 {
			out.WriteString(s.Pick("/", "\\", "!", "\xff", "é", "\x00", "1", "\n", "12345", "\v"))
		}
	}
	return out.String()
}

func TestAllOfDrawnTexts(t *testing.T) {
	s := drawn.Source(220)
	right, wrong := 0, 0
	for range 40000 {
		if mustSplitTheSame(t, drawnText(&s)) < 0 {
			wrong++
		} else {
			right++
		}
	}
	if right < 10000 || wrong < 5000 {
		t.Errorf("%d texts are words, %d not", right, wrong)
	}
}

func TestAllOfDrawnBytes(t *testing.T) {
	s := drawn.Source(221)
	for i := range 60000 {
		alphabet := []string{"ab_019 ;", "a1/\\# \n\r\t:|;", "/\\a ", "ab01/\\#\n\r\x00\x80\xff;"}[i%4]
		mustSplitTheSame(t, several(&s, alphabet, 0, 80))
	}
}
