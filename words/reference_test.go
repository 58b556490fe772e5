package words_test

import (
	"regexp"
	"slices"
	"strings"
	"testing"

	"homograph/api"
	"homograph/drawn"
	"homograph/words"
)

// word is a word of a kind that stands at a place.
func word(kind int, text string, at int) words.Word {
	return words.Word{Kind: kind, Text: text, At: at}
}

func name(text string, at int) words.Word { return word(words.Name, text, at) }

func number(text string, at int) words.Word { return word(words.Number, text, at) }

func pattern(text string, at int) words.Word { return word(words.Pattern, text, at) }

func mark(text string, at int) words.Word { return word(words.Mark, text, at) }

// mustSplit holds that a text has certain words.
func mustSplit(t *testing.T, s string, want ...words.Word) {
	t.Helper()
	if got, e, at := words.All(s); !slices.Equal(got, want) || e != api.OK || at != 0 {
		t.Errorf("All(%.200q) = %.500v, %d, %d, want %.500v", s, got, e, at, want)
	}
}

// mustNotSplit holds that something in a text is no word, and where.
func mustNotSplit(t *testing.T, s string, want int) {
	t.Helper()
	if got, e, at := words.All(s); got != nil || e != api.ErrWord || at != want {
		t.Errorf("All(%.200q) = %.500v, %d, %d, want ErrWord, %d", s, got, e, at, want)
	}
}

func mustJoin(t *testing.T, want string, l ...words.Word) {
	t.Helper()
	if got := words.Join(l); got != want {
		t.Errorf("Join(%.500v) = %.200q, want %.200q", l, got, want)
	}
}

// The chapter once more, by the library's regular expressions.

var (
	gapForm  = regexp.MustCompile(`^(?:[ \t\r\n]|#[^\n]*)*`)
	wordForm = regexp.MustCompile(`^(?:([A-Za-z_][0-9A-Za-z_]*)|([0-9]+)|/((?:\\[^\r\n]|[^\\/\r\n])*)/|([:|;]))`)
	nameForm = regexp.MustCompile(`\A[A-Za-z_][0-9A-Za-z_]{0,31}\z`)
)

// allOf is what All should tell of a text that isn't too long.
func allOf(s string) ([]words.Word, api.Errno, int) {
	var l []words.Word
	for at := len(gapForm.FindString(s)); at < len(s); {
		found := wordForm.FindStringSubmatchIndex(s[at:])
		if found == nil {
			return nil, api.ErrWord, at
		}
		kind := 0
		for found[2+2*kind] < 0 {
			kind++
		}
		text := s[at+found[2+2*kind] : at+found[3+2*kind]]
		if kind == words.Name && len(text) > 32 || kind == words.Number && len(text) > 4 {
			return nil, api.ErrWord, at
		}
		l = append(l, word(kind, text, at))
		at += found[1]
		at += len(gapForm.FindString(s[at:]))
	}
	return l, api.OK, 0
}

// mustSplitTheSame holds All of a text against allOf, and tells how many words it has; below 0 if something is none.
func mustSplitTheSame(t *testing.T, s string) int {
	t.Helper()
	want, e, at := allOf(s)
	if e != api.OK {
		mustNotSplit(t, s, at)
		return -1
	}
	mustSplit(t, s, want...)
	return len(want)
}

// joinOf is what Join should tell.
func joinOf(l []words.Word) string {
	var texts []string
	for _, w := range l {
		texts = append(texts, map[bool]string{true: "/" + w.Text + "/", false: w.Text}[w.Kind == words.Pattern])
	}
	return strings.Join(texts, " ")
}

// lineOf is what Line should tell, byte by byte.
func lineOf(s string, at int) (line, column int) {
	line, column = 1, 1
	for i := 0; i < at && i < len(s); i++ {
		column++
		if s[i] == '\n' {
			line, column = line+1, 1
		}
	}
	return line, column
}

// everyByte is each byte once, as a text of one byte.
func everyByte() []string {
	var l []string
	for b := range 256 {
		l = append(l, string([]byte{byte(b)}))
	}
	return l
}

// several are some of the bytes of an alphabet, so many at least and at most.
func several(s *drawn.Source, alphabet string, least, most int) string {
	b := make([]byte, least+s.Below(most-least+1))
	for i := range b {
		b[i] = alphabet[s.Below(len(alphabet))]
	}
	return string(b)
}

// drawnWord is a word of any kind that may be, at 0.
func drawnWord(s *drawn.Source) words.Word {
	const letters = "abcxyzABCXYZ_"
	switch s.Below(5) {
	case 0:
		return number(several(s, "0123456789", 1, 4), 0)
	case 1:
		text := ""
		for range s.Below(6) {
			text += s.Pick("a", "0", " ", "\t", "#", ":", ";", "|", `\/`, `\\`, `\n`, `\ `, `\#`, "[a-z]*", "\x00", "\x80", "\xff", "\\\xc3", "é", "\\\x00", "\v")
		}
		return pattern(text, 0)
	case 2:
		return mark(s.Pick(":", "|", ";"), 0)
	}
	most := []int{3, 31}[s.Below(2)]
	return name(several(s, letters, 1, 1)+several(s, letters+"0189", 0, most), 0)
}

// drawnWords are at most so many words, at 0.
func drawnWords(s *drawn.Source, most int) []words.Word {
	var l []words.Word
	for range s.Below(most + 1) {
		l = append(l, drawnWord(s))
	}
	return l
}
