package words

import (
	"strings"

	"homograph/api"
)

// maxDigits is how many digits a number has at most.
const maxDigits = 4

// first is the kind and the length of the word that a text begins with; its length is 0 if it begins with none.
func first(s string) (int, int) {
	if s == "" {
		return 0, 0
	}
	kind, end := form(s[0])
	return kind, end(s)
}

// form is the kind of the words that begin with a byte, and what finds where one ends in a text that begins with it: at 0 if it is no word.
func form(b byte) (int, func(s string) int) {
	switch {
	case letter(b):
		return Name, run(api.MaxName, func(b byte) bool { return letter(b) || digit(b) })
	case digit(b):
		return Number, run(maxDigits, digit)
	case b == '/':
		return Pattern, slash
	case strings.IndexByte(":|;", b) >= 0:
		return Mark, func(string) int { return 1 }
	}
	return 0, func(string) int { return 0 }
}

// run finds where the bytes of a sort end. If they are too many, they are no word, not even the first ones of them.
func run(most int, of func(byte) bool) func(s string) int {
	return func(s string) int {
		length := 0
		for length < len(s) && of(s[length]) {
			length++
		}
		if length > most {
			return 0
		}
		return length
	}
}

// slash finds where a pattern ends: behind its closing slash.
func slash(s string) int {
	escaped := false
line:
	for at := 1; at < len(s); at++ {
		switch b := s[at]; {
		// A line end ends the line also where it is escaped.
		case b == '\n' || b == '\r':
			break line
		case escaped:
			escaped = false
		case b == '\\':
			escaped = true
		case b == '/':
			return at + 1
		}
	}
	return 0
}

// letter tells whether a name may begin with a byte.
func letter(b byte) bool {
	return 'a' <= b && b <= 'z' || 'A' <= b && b <= 'Z' || b == '_'
}

func digit(b byte) bool { return '0' <= b && b <= '9' }
