package pattern

import (
	"strings"

	"homograph/api"
	"homograph/byteset"
)

const (
	metacharacters = `()[]{}|&*+?.~\/`
	classMarks     = `]\^-`

	// Each letter stands for the control byte at the same index.
	controlLetters = "ntr"
	controlBytes   = "\n\t\r"

	hexDigits = "0123456789abcdef"
)

// printable tells whether a byte may stand in a pattern's text at all.
func printable(b byte) bool { return ' ' <= b && b <= '~' }

// plain tells whether a byte outside a class stands for itself.
func plain(b byte) bool { return printable(b) && strings.IndexByte(metacharacters, b) < 0 }

// plainInClass tells whether a byte in a class stands for itself.
func plainInClass(b byte) bool { return printable(b) && strings.IndexByte(classMarks, b) < 0 }

// shownInClass tells whether a byte in a class is printed as itself.
// A slash is not, though it stands for itself: it would end the pattern in a specification.
func shownInClass(b byte) bool { return plainInClass(b) && b != '/' }

func digit(b byte) bool { return '0' <= b && b <= '9' }

func letter(b byte) bool { return 'a' <= b && b <= 'z' || 'A' <= b && b <= 'Z' }

// escapable tells whether a byte behind a backslash stands for itself.
func escapable(b byte) bool { return b != ' ' && printable(b) && !letter(b) && !digit(b) }

// anyOfLine is what a dot matches.
func anyOfLine() api.Set { return byteset.Not(byteset.Of("\n")) }

// unescape is the byte for which the escape at the beginning of a text stands, and the escape's length, 0 if it isn't valid.
func unescape(s string) (byte, int) {
	if len(s) < 2 {
		return 0, 0
	}
	if i := strings.IndexByte(controlLetters, s[1]); i >= 0 {
		return controlBytes[i], 2
	}
	if escapable(s[1]) {
		return s[1], 2
	}
	if s[1] != 'x' || len(s) < 4 {
		return 0, 0
	}
	high, low := strings.IndexByte(hexDigits, s[2]), strings.IndexByte(hexDigits, s[3])
	if high < 0 || low < 0 {
		return 0, 0
	}
	return byte(high<<4 | low), 4
}

// writeEscape writes the escape of a byte.
func writeEscape(out *strings.Builder, b byte) {
	out.WriteByte('\\')
	if i := strings.IndexByte(controlBytes, b); i >= 0 {
		out.WriteByte(controlLetters[i])
		return
	}
	if escapable(b) {
		out.WriteByte(b)
		return
	}
	out.WriteByte('x')
	out.WriteByte(hexDigits[b>>4])
	out.WriteByte(hexDigits[b&15])
}
