// Package drawn makes patterns, machines and texts for the tests of several packages, the same ones in each run.
package drawn

import (
	"strings"

	"homograph/api"
	"homograph/byteset"
	"homograph/regex"
)

// Source makes numbers that hang on nothing but its value.
type Source uint64

// Below is a number from 0 to n - 1.
func (s *Source) Below(n int) int {
	*s = *s*6364136223846793005 + 1442695040888963407
	return int(uint64(*s) >> 33 % uint64(n))
}

// Text is a text of at most so many bytes.
func (s *Source) Text(most int) string {
	var out strings.Builder
	for range s.Below(most + 1) {
		out.WriteByte("aaabbc"[s.Below(6)])
	}
	return out.String()
}

// Pattern is a valid pattern of at most so many levels.
func (s *Source) Pattern(levels int) api.Node {
	kinds := 3
	if levels > 1 {
		kinds = 9
	}
	switch s.Below(kinds) {
	case 3:
		return regex.Alt(s.kids(levels)...)
	case 4:
		return regex.And(s.kids(levels)...)
	case 5:
		return regex.Not(s.Pattern(levels - 1))
	case 6:
		least := s.Below(4)
		return regex.Rep(s.Pattern(levels-1), least, []int{-1, -7, least, least + 1, least + 3}[s.Below(5)])
	case 7:
		return regex.Rep(s.Pattern(levels-1), s.Below(2), -1)
	case 8:
		return regex.Cat(s.kids(levels)...)
	}
	return regex.Set(byteset.Of([]string{"", "a", "b", "ab", "c"}[s.Below(5)]))
}

// kids are what may stand in a list of so many levels.
func (s *Source) kids(levels int) []api.Node {
	var l []api.Node
	for range s.Below(4) {
		l = append(l, s.Pattern(levels-1))
	}
	return l
}
