package words_test

import (
	"math"
	"strings"
	"testing"

	"homograph/drawn"
	"homograph/words"
)

// P12.2: Line

func mustStand(t *testing.T, s string, at, line, column int) {
	t.Helper()
	if l, c := words.Line(s, at); l != line || c != column {
		t.Errorf("Line(%.200q, %d) = %d, %d, want %d, %d", s, at, l, c, line, column)
	}
}

func TestLine(t *testing.T) {
	const s = "ab\nc\n\nd"
	for at, want := range [][2]int{{1, 1}, {1, 2}, {1, 3}, {2, 1}, {2, 2}, {3, 1}, {4, 1}, {4, 2}} {
		mustStand(t, s, at, want[0], want[1])
	}
	for _, below := range []int{-1, -2, -8, math.MinInt32, math.MinInt} {
		mustStand(t, s, below, 1, 1)
		mustStand(t, "\n", below, 1, 1)
		mustStand(t, "", below, 1, 1)
	}
	for _, above := range []int{8, 9, 1 << 20, math.MaxInt32, math.MaxInt} {
		mustStand(t, s, above, 4, 2)
		mustStand(t, s+"\n", above, 5, 1)
		mustStand(t, "\n", above, 2, 1)
		mustStand(t, "", above, 1, 1)
	}
	mustStand(t, "", 0, 1, 1)
	mustStand(t, "\n", 0, 1, 1)
	mustStand(t, "\n", 1, 2, 1)
	mustStand(t, "a", 1, 1, 2)
}

// Nothing but a line feed ends a line, and a column counts bytes.
func TestLineOfOtherBytes(t *testing.T) {
	mustStand(t, "a\rb", 2, 1, 3)
	mustStand(t, "a\r\nb", 2, 1, 3)
	mustStand(t, "a\r\nb", 3, 2, 1)
	mustStand(t, "\r\r", 2, 1, 3)
	mustStand(t, "é\né", 2, 1, 3)
	mustStand(t, "é\né", 5, 2, 3)
	mustStand(t, "\u2028\u0085", 5, 1, 6)
	for _, b := range everyByte() {
		if b != "\n" {
			mustStand(t, b+"\n"+b+b, 2, 2, 1)
			mustStand(t, b+"\n"+b+b, 4, 2, 3)
			mustStand(t, b+b, 1, 1, 2)
		}
	}
}

func TestLineOfAllShortTexts(t *testing.T) {
	for _, s := range drawn.Texts("a\n\r\xff", 6) {
		for at := -2; at < len(s)+3; at++ {
			line, column := lineOf(s, at)
			mustStand(t, s, at, line, column)
		}
	}
}

func TestLineOfDrawnTexts(t *testing.T) {
	s := drawn.Source(226)
	for range 5000 {
		text := drawnText(&s)
		for range 10 {
			at := s.Below(len(text)+20) - 10
			line, column := lineOf(text, at)
			mustStand(t, text, at, line, column)
		}
	}
}

func TestLineOfLongTexts(t *testing.T) {
	const length = 1 << 22
	mustStand(t, strings.Repeat("a", length), length, 1, length+1)
	mustStand(t, strings.Repeat("\n", length), length, length+1, 1)
	mustStand(t, strings.Repeat("\n", length), length-1, length, 1)
	mustStand(t, strings.Repeat("ab\n", length), 3*length-1, length, 3)
}
