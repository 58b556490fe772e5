package words_test

import (
	"slices"
	"strings"
	"testing"

	"homograph/api"
	"homograph/drawn"
	"homograph/words"
)

// P12.2: Join and IsName

func TestJoin(t *testing.T) {
	mustJoin(t, "")
	mustJoin(t, "a", name("a", 0))
	mustJoin(t, "12", number("12", 7))
	mustJoin(t, "/b/", pattern("b", 0))
	mustJoin(t, "//", pattern("", 0))
	mustJoin(t, ";", mark(";", 3))
	mustJoin(t, "a b", name("a", 0), name("b", 1))
	mustJoin(t, "A : b | c ;", name("A", 0), mark(":", 2), name("b", 4), mark("|", 5), name("c", 6), mark(";", 8))
	mustJoin(t, `token a /\// // prio 007 ;`, name("token", 0), name("a", 0), pattern(`\/`, 0), pattern("", 0), name("prio", 0), number("007", 0), mark(";", 0))
	mustJoin(t, "; : ; |", mark(";", 9), mark(":", -4), mark(";", 9), mark("|", 1<<62))
}

// A caller may make words of any sort.
func TestJoinOfOtherWords(t *testing.T) {
	mustJoin(t, "", words.Word{})
	mustJoin(t, " ", words.Word{}, words.Word{})
	mustJoin(t, "  a", words.Word{}, words.Word{}, name("a", 0))
	mustJoin(t, "/a/ b", name("/a/", 0), name("b", 0))
	mustJoin(t, "/// /a\n/ \xff", pattern("/", 0), pattern("a\n", 0), name("\xff", 0))
	for kind := -3; kind < 10; kind++ {
		if kind != words.Pattern {
			mustJoin(t, "a b", word(kind, "a", 0), word(kind, "b", 0))
		}
	}
}

func TestJoinOfDrawnWords(t *testing.T) {
	s := drawn.Source(222)
	for range 20000 {
		l := drawnWords(&s, 9)
		for i := range l {
			l[i].Kind, l[i].At = s.Below(7)-2, s.Below(100)-50
		}
		mustJoin(t, joinOf(l), l...)
	}
}

func TestIsName(t *testing.T) {
	for _, s := range []string{"a", "z", "A", "Z", "_", "__", "a1", "_1", "a_b", "token", "layout", "start", "longest", "prio", "Name", strings.Repeat("a", 31), strings.Repeat("a", 32), "_" + strings.Repeat("9", 31)} {
		if !words.IsName(s) {
			t.Errorf("%q is no name", s)
		}
	}
	for _, s := range []string{
		"", " ", "1", "1a", "12", "/a/", "//", ":", "|", ";", "#", "a ", " a", "a b", "a\n", "\na", "a#", "a;", "a/b/", "a-b", "a.b", "é", "aé", "éa", "a\xff", "\xffa", "a\x00", "\x00a", "!",
		strings.Repeat("a", 33), "_" + strings.Repeat("9", 32), strings.Repeat("a", 32) + " ", strings.Repeat("a", 64), strings.Repeat("a", 1<<20),
	} {
		if words.IsName(s) {
			t.Errorf("%.50q is a name", s)
		}
	}
}

func TestIsNameOfAllShortTexts(t *testing.T) {
	for _, alphabet := range []struct {
		bytes string
		most  int
	}{{strings.Join(everyByte(), ""), 2}, {"azAZ_09 /:;@[`{", 4}} {
		for _, s := range drawn.Texts(alphabet.bytes, alphabet.most) {
			if got, want := words.IsName(s), nameForm.MatchString(s); got != want {
				t.Errorf("IsName(%q) = %t", s, got)
			}
		}
	}
}

// A text is a name just if it is one word, a Name, of as many bytes.
func TestIsNameOfDrawnTexts(t *testing.T) {
	s := drawn.Source(223)
	names := 0
	for range 60000 {
		text := several(&s, "abcXYZ_019", 0, 40)
		if s.Below(3) == 0 {
			text += s.Pick(" ", "\n", "#", ";", "é", "\x80")
		}
		l, _, _ := words.All(text)
		want := slices.Equal(l, []words.Word{name(text, 0)})
		if got := words.IsName(text); got != want || got != nameForm.MatchString(text) {
			t.Errorf("IsName(%q) = %t", text, got)
		}
		if want {
			names++
		}
	}
	if names < 5000 {
		t.Errorf("only %d of them are names", names)
	}
}

// P12.3: All of Join of words is these words again.

// mustComeBack holds that Join of words that may be has these words again, each behind a space.
func mustComeBack(t *testing.T, l []words.Word) {
	t.Helper()
	want := slices.Clone(l)
	at := 0
	for i := range want {
		want[i].At = at
		at += len(joinOf(want[i:i+1])) + 1
	}
	joined := words.Join(l)
	mustSplit(t, joined, want...)
	if again := words.Join(want); again != joined {
		t.Errorf("Join(%v) = %q, but with other offsets %q", l, joined, again)
	}
}

func TestAllOfJoin(t *testing.T) {
	mustComeBack(t, nil)
	mustComeBack(t, []words.Word{name("a", 5)})
	mustComeBack(t, []words.Word{name("a", 0), name("b", 0), number("1", 0), number("2", 0), name("c", 0)})
	mustComeBack(t, []words.Word{pattern("", 0), pattern("", 0), pattern("#", 0), name("a", 0), pattern(`\\`, 0), pattern(`\/`, 0), mark(";", 0)})
	mustComeBack(t, []words.Word{pattern("\x00\x80\xff é", 0), name(strings.Repeat("a", 32), 0), number("9999", 0)})
	// As many marks as come back from a text that isn't too long.
	mustComeBack(t, slices.Repeat([]words.Word{mark(";", 0)}, api.MaxText/2))
	mustComeBack(t, []words.Word{pattern(strings.Repeat("a", api.MaxText-2), 0)})
}

func TestAllOfJoinOfDrawnWords(t *testing.T) {
	s := drawn.Source(224)
	for range 30000 {
		mustComeBack(t, drawnWords(&s, 12))
	}
}

// The words of a text come back, whatever separates them there.
func TestAllOfJoinOfAll(t *testing.T) {
	s := drawn.Source(225)
	right := 0
	for i := range 60000 {
		text := drawnText(&s)
		if i%2 == 0 {
			text = several(&s, "ab1/\\#\n\r\t :|;\xff", 0, 20)
		}
		if l, e, _ := words.All(text); e == api.OK {
			mustComeBack(t, l)
			right++
		}
	}
	if right < 20000 {
		t.Errorf("only %d texts are words", right)
	}
}

// Each pair of words that All tells of short texts comes back.
func TestAllOfJoinOfPairs(t *testing.T) {
	var l []words.Word
	for _, s := range drawn.Texts("a1/\\#;", 4) {
		if found, e, _ := words.All(s); e == api.OK && len(found) == 1 {
			l = append(l, found[0])
		}
	}
	for _, first := range l {
		for _, second := range l {
			mustComeBack(t, []words.Word{first, second})
		}
	}
	if len(l) < 50 {
		t.Errorf("only %d words", len(l))
	}
}
