package words

import (
	"iter"
	"strings"
)

// each gives the words of a text, in order, and true; where something stands that is no word, it gives that place and false, and ends.
func each(s string) iter.Seq2[Word, bool] {
	return func(yield func(Word, bool) bool) {
		for at := skip(s, 0); at < len(s); {
			kind, length := first(s[at:])
			if length == 0 {
				yield(Word{At: at}, false)
				return
			}
			end := at + length
			if !yield(Word{kind, inside(kind, s[at:end]), at}, true) {
				return
			}
			at = skip(s, end)
		}
	}
}

// skip is where the separators end that stand at a place.
func skip(s string, at int) int {
	for at < len(s) {
		switch s[at] {
		case ' ', '\t', '\r', '\n':
			at++
		case '#':
			at += comment(s[at:])
		default:
			return at
		}
	}
	return at
}

// comment is how long the comment is that a text begins with: a carriage return doesn't end it.
func comment(s string) int {
	if length := strings.IndexByte(s, '\n'); length >= 0 {
		return length
	}
	return len(s)
}

// inside is a word's Text. It is cloned, because it would otherwise keep the whole specification in memory.
func inside(kind int, s string) string {
	if kind == Pattern {
		s = s[1 : len(s)-1]
	}
	return strings.Clone(s)
}
