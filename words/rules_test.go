package words_test

import (
	"slices"
	"strings"
	"testing"
	"unsafe"

	"homograph/api"
	"homograph/drawn"
	"homograph/words"
)

// Rule 3: arguments are neither modified nor retained, and results are in new memory.

// span is where the bytes of a text lie.
func span(s string) (from, to uintptr) {
	from = uintptr(unsafe.Pointer(unsafe.StringData(s)))
	return from, from + uintptr(len(s))
}

// share tells whether two texts have a byte in memory in common.
func share(a, b string) bool {
	aFrom, aTo := span(a)
	bFrom, bTo := span(b)
	return aFrom < bTo && bFrom < aTo && a != "" && b != ""
}

// mustBeApart holds that no text of some words shares memory with another one of these or with any of other texts.
func mustBeApart(t *testing.T, l []words.Word, others ...string) {
	t.Helper()
	for i, w := range l {
		for _, other := range others {
			if share(w.Text, other) {
				t.Fatalf("the text %.50q of a word lies in %.50q", w.Text, other)
			}
		}
		for _, other := range l[:i] {
			if share(w.Text, other.Text) {
				t.Fatalf("the texts %.50q and %.50q of two words lie in the same memory", w.Text, other.Text)
			}
		}
	}
}

func TestTextsOfWordsAreInNewMemory(t *testing.T) {
	s := drawn.Source(227)
	texts := []string{"a", "7", "/a/", ";", "//", "A : b|c ; # x", "a a a;;1 1/a//a/", "/" + strings.Repeat("a", api.MaxText-2) + "/"}
	for range 2000 {
		texts = append(texts, drawnText(&s))
	}
	for _, text := range texts {
		text = strings.Clone(text)
		first, _, _ := words.All(text)
		second, _, _ := words.All(text)
		mustBeApart(t, slices.Concat(first, second), text)
	}
}

func TestJoinIsInNewMemory(t *testing.T) {
	s := drawn.Source(228)
	lists := [][]words.Word{{name("abc", 0)}, {name("a", 0)}, {pattern("abc", 0)}, {number("12", 0)}, {mark(";", 0)}, {name("abc", 0), name("", 0)}, {{}, {Text: "abc"}}}
	for range 2000 {
		lists = append(lists, drawnWords(&s, 6))
	}
	for _, l := range lists {
		l = slices.Clone(l)
		for i := range l {
			l[i].Text = strings.Clone(l[i].Text)
		}
		first, second := words.Join(l), words.Join(l)
		if first != second || share(first, second) {
			t.Fatalf("two Joins of %v lie in the same memory, or differ", l)
		}
		mustBeApart(t, l, first, second)
	}
}

// roomy is words in new memory, with some beyond their end, and what all of them are.
func roomy(l []words.Word) (arg, whole []words.Word) {
	whole = append(slices.Clone(l), name("beyond", 3), pattern("/", -1), words.Word{Kind: 9})
	return slices.Clone(whole)[:len(l)], whole
}

func TestWordsAreNotModified(t *testing.T) {
	s := drawn.Source(229)
	for range 3000 {
		l := drawnWords(&s, 6)
		arg, whole := roomy(l)
		want := joinOf(l)
		got := words.Join(arg)
		if got != want || !slices.Equal(arg[:len(whole)], whole) {
			t.Fatalf("Join(%v) = %q, or it modified its argument", l, got)
		}
		// Other words in the same memory must be joined as what they are.
		for i := range arg {
			arg[i] = mark("|", i)
		}
		mustJoin(t, joinOf(arg), arg...)
		if got != want {
			t.Fatalf("Join(%v) changed with its argument", l)
		}
	}
}

// What is behind the end of a list must not count as its own.
func TestWordsBeyondTheEnd(t *testing.T) {
	l := []words.Word{name("a", 0), pattern("b", 2)}
	for i, want := range []string{"", "a", "a /b/"} {
		if got := words.Join(l[:i]); got != want {
			t.Errorf("Join of the first %d words = %q", i, got)
		}
	}
	for _, none := range [][]words.Word{nil, {}, make([]words.Word, 0, 40), l[:0]} {
		mustJoin(t, "", none...)
	}
}

// Bytes that are changed behind a call's back, as those of a text that a caller made of them, must not matter to what it told.
func TestTextsAreNotKept(t *testing.T) {
	s := drawn.Source(230)
	for range 3000 {
		text := drawnText(&s)
		b := []byte(text + "!")
		arg := unsafe.String(&b[0], len(text))
		want, e, at := allOf(text)
		got, f, gotAt := words.All(arg)
		isName := words.IsName(arg)
		line, column := words.Line(arg, len(text)/2)
		if string(b) != text+"!" {
			t.Fatalf("a call modified %q", text)
		}
		for i := range b {
			b[i] = 'q'
		}
		if e != f || at != gotAt || !slices.Equal(got, want) {
			t.Fatalf("All(%q) = %v, %d, %d, want %v, %d, %d", text, got, f, gotAt, want, e, at)
		}
		if isName != nameForm.MatchString(text) {
			t.Fatalf("IsName(%q) = %t", text, isName)
		}
		mustStand(t, text, len(text)/2, line, column)
		// Another text in the same memory.
		mustSplitTheSame(t, arg)
	}
}

func TestListsAreApart(t *testing.T) {
	s := drawn.Source(231)
	for range 2000 {
		text := drawnText(&s)
		first, _, _ := words.All(text)
		second, e, at := words.All(text)
		want := slices.Clone(second)
		first = first[:cap(first)]
		for i := range first {
			first[i] = name("q", -1)
		}
		if !slices.Equal(second, want) {
			t.Fatalf("All(%q) changed with an earlier result", text)
		}
		if third, f, again := words.All(text); !slices.Equal(third, want) || e != f || at != again {
			t.Fatalf("All(%q) = %v, %d, %d, and then %v, %d, %d", text, want, e, at, third, f, again)
		}
	}
}
