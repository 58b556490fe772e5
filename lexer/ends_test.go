package lexer_test

import (
	"math"
	"slices"
	"strings"
	"testing"

	"homograph/api"
	"homograph/drawn"
	"homograph/lexer"
)

// P9.2

// mustEnd holds what Ends is, and what Longest is of each token by that.
func mustEnd(t *testing.T, m api.Machine, s string, from int, want []api.Edge) {
	t.Helper()
	if got := lexer.Ends(m, s, from); !slices.Equal(got, want) {
		t.Errorf("Ends(%v, %q, %d) = %v, want %v", m, s, from, got, want)
	}
	last := map[int]int{}
	for _, e := range want {
		last[e.Token] = e.To
	}
	for token := -2; token < 67; token++ {
		to, ok := last[token]
		if !ok {
			to = -1
		}
		mustReach(t, m, s, from, token, to)
	}
}

func mustReach(t *testing.T, m api.Machine, s string, from, token, want int) {
	t.Helper()
	if got := lexer.Longest(m, s, from, token); got != want {
		t.Errorf("Longest(%v, %q, %d, %d) = %d, want %d", m, s, from, token, got, want)
	}
}

func TestEnds(t *testing.T) {
	m := built(t, parse(t, "a", "a+")...)
	mustEnd(t, m, "aa", 0, ends(0, [2]int{0, 1}, [2]int{1, 1}, [2]int{1, 2}))
	mustEnd(t, m, "aa", 1, ends(1, [2]int{0, 2}, [2]int{1, 2}))
	mustEnd(t, m, "aa", 2, nil)
	mustEnd(t, m, "baab", 0, nil)
	mustEnd(t, m, "baab", 1, ends(1, [2]int{0, 2}, [2]int{1, 2}, [2]int{1, 3}))
	mustEnd(t, m, "", 0, nil)

	// The whole document's examples of an if.
	m = built(t, parse(t, "if", "[a-z]+")...)
	mustEnd(t, m, "if", 0, ends(0, [2]int{1, 1}, [2]int{0, 2}, [2]int{1, 2}))
	mustEnd(t, m, "if", 1, ends(1, [2]int{1, 2}))
	mustEnd(t, m, "iffy", 0, ends(0, [2]int{1, 1}, [2]int{0, 2}, [2]int{1, 2}, [2]int{1, 3}, [2]int{1, 4}))

	// A token that ends nowhere, at from alone, several times with gaps, and at the text's end alone.
	m = built(t, parse(t, "x", "", "(ab)*", "abab")...)
	mustEnd(t, m, "abab", 0, ends(0, [2]int{1, 0}, [2]int{2, 0}, [2]int{2, 2}, [2]int{2, 4}, [2]int{3, 4}))
	mustEnd(t, m, "abab", 2, ends(2, [2]int{1, 2}, [2]int{2, 2}, [2]int{2, 4}))
	mustEnd(t, m, "abab", 4, ends(4, [2]int{1, 4}, [2]int{2, 4}))
	mustEnd(t, m, "abax", 3, ends(3, [2]int{1, 3}, [2]int{2, 3}, [2]int{0, 4}))
	mustEnd(t, m, "", 0, ends(0, [2]int{1, 0}, [2]int{2, 0}))
}

func TestEndsFromWhereNoTextIs(t *testing.T) {
	for _, m := range []api.Machine{nil, {state(1)}, {state(math.MaxUint64, arc(0, 255, 0))}, built(t, parse(t, "", "a*", "[^]*")...)} {
		for _, s := range []string{"", "a", "aaaa"} {
			for _, from := range []int{-1, -2, -len(s), -64, math.MinInt, len(s) + 1, len(s) + 2, len(s) + 64, math.MaxInt} {
				if from < 0 || from > len(s) {
					mustEnd(t, m, s, from, nil)
				}
			}
		}
	}
	m := api.Machine{state(2, arc(0, 255, 0))}
	mustEnd(t, m, "ab", 0, ends(0, [2]int{1, 0}, [2]int{1, 1}, [2]int{1, 2}))
	mustEnd(t, m, "ab", 2, ends(2, [2]int{1, 2}))
	mustEnd(t, m, "", 0, ends(0, [2]int{1, 0}))
}

func TestEndsOfMachinesWithoutStatesOrArcs(t *testing.T) {
	for _, s := range []string{"", "a", "abc"} {
		for from := range len(s) + 1 {
			mustEnd(t, nil, s, from, nil)
			mustEnd(t, api.Machine{}, s, from, nil)
			mustEnd(t, api.Machine{state(0)}, s, from, nil)
			mustEnd(t, api.Machine{state(0, arc(0, 255, 0))}, s, from, nil)
			mustEnd(t, api.Machine{state(5)}, s, from, ends(from, [2]int{0, from}, [2]int{2, from}))
			// A machine begins in its first state, and not in one that accepts.
			mustEnd(t, api.Machine{state(0), state(1, arc(0, 255, 1))}, s, from, nil)
		}
	}
}

func TestEndsOfAllBits(t *testing.T) {
	m := api.Machine{state(math.MaxUint64, arc(0, 255, 0))}
	var want []api.Edge
	for to := 1; to <= 3; to++ {
		for k := range 64 {
			want = append(want, api.Edge{Token: k, From: 1, To: to})
		}
	}
	mustEnd(t, m, "abc", 1, want)
	for k := range 64 {
		bit := api.Machine{state(0, by('a', 1)), state(1<<k, by('b', 0))}
		mustEnd(t, bit, "ababa", 0, ends(0, [2]int{k, 1}, [2]int{k, 3}, [2]int{k, 5}))
		mustEnd(t, bit, "ababa", 1, nil)
		mustEnd(t, bit, "ababb", 2, ends(2, [2]int{k, 3}))
		mustEnd(t, api.Machine{state(math.MaxUint64 &^ (1 << k))}, "ab", 2, slices.DeleteFunc(endsOf(m, "ab", 2), func(e api.Edge) bool { return e.Token == k }))
	}
	mustEnd(t, api.Machine{state(1<<63 | 1<<32 | 1<<31 | 1)}, "", 0, ends(0, [2]int{0, 0}, [2]int{31, 0}, [2]int{32, 0}, [2]int{63, 0}))
}

// Of the tokens that there may not be, none ends anywhere, also where one ends whose number has the same last bits.
func TestLongestOfWhatIsNoToken(t *testing.T) {
	all, one := api.Machine{state(math.MaxUint64, arc(0, 255, 0))}, api.Machine{state(1<<63|1<<31|1, by('a', 0))}
	for _, token := range []int{-1, -2, -31, -32, -33, -63, -64, -65, math.MinInt, math.MinInt + 1, math.MinInt + 63, 64, 65, 95, 96, 127, 128, 1 << 16, 1 << 32, 1<<32 + 1, 1<<32 + 63, math.MaxInt - 63, math.MaxInt} {
		mustReach(t, all, "aaa", 0, token, -1)
		mustReach(t, all, "aaa", 3, token, -1)
		mustReach(t, one, "aab", 0, token, -1)
		mustReach(t, nil, "aab", 0, token, -1)
	}
	for token, want := range map[int]int{0: 2, 31: 2, 63: 2, 1: -1, 30: -1, 32: -1, 62: -1} {
		mustReach(t, one, "aab", 0, token, want)
		mustReach(t, one, "aab", 1, token, want)
		mustReach(t, one, "aab", 4, token, -1)
		mustReach(t, one, "aab", -1, token, -1)
	}
	mustReach(t, one, "aab", 2, 31, 2)
	mustReach(t, one, "aab", 3, 31, 3)
	// It may be shorter than where the machine goes, and than where other tokens end.
	m := built(t, parse(t, "a", "a+", "a*b", "a{2,3}")...)
	for token, want := range map[int]int{0: 1, 1: 5, 2: 6, 3: 3} {
		mustReach(t, m, "aaaaab", 0, token, want)
	}
	mustReach(t, m, "aaaaac", 0, 2, -1)
}

// A text is bytes, not runes, and the first and the last byte are bytes like others.
func TestEndsOfBytes(t *testing.T) {
	m := built(t, parse(t, "\\xc3\\xa9", "\\xc3", "[\\x00\\xff]+", "\\x00", "\\xff*")...)
	mustEnd(t, m, "\u00e9", 0, ends(0, [2]int{4, 0}, [2]int{1, 1}, [2]int{0, 2}))
	mustEnd(t, m, "\u00e9", 1, ends(1, [2]int{4, 1}))
	mustEnd(t, m, "\x00\xff\x00", 0, ends(0, [2]int{4, 0}, [2]int{2, 1}, [2]int{3, 1}, [2]int{2, 2}, [2]int{2, 3}))
	mustEnd(t, m, "\xff\xff\x00\x01", 0, ends(0, [2]int{4, 0}, [2]int{2, 1}, [2]int{4, 1}, [2]int{2, 2}, [2]int{4, 2}, [2]int{2, 3}))
}

// Of machines that dfa.Check rejects, the first arc counts, and from what is no state it goes nowhere.
func TestEndsOfMachinesThatMayNotBe(t *testing.T) {
	m := api.Machine{
		state(1, arc('a', 'c', 1), arc('b', 'd', 2)),
		state(2, arc('x', 'z', 0), by('a', 2), by('a', 1), by('m', -1), by('m', 1), by('n', 9), by('o', math.MaxInt), by('p', math.MinInt), arc('c', 'b', 1)),
		state(1<<63, arc(0, 255, 3)),
	}
	mustEnd(t, m, "ba!!", 0, ends(0, [2]int{0, 0}, [2]int{1, 1}, [2]int{63, 2}))
	mustEnd(t, m, "dd", 0, ends(0, [2]int{0, 0}, [2]int{63, 1}))
	mustEnd(t, m, "cycb", 0, ends(0, [2]int{0, 0}, [2]int{1, 1}, [2]int{0, 2}, [2]int{1, 3}))
	for _, s := range []string{"amx", "anx", "aox", "apx", "abx", "acx"} {
		mustEnd(t, m, s, 0, ends(0, [2]int{0, 0}, [2]int{1, 1}))
		mustEnd(t, m, "q"+s, 1, ends(1, [2]int{0, 1}, [2]int{1, 2}))
	}
	for _, m := range drawn.RejectedMachines() {
		for _, s := range []string{"", "a", "ab", "ba", "\x00\x01\x00", "az"} {
			for from := range len(s) + 1 {
				mustEnd(t, m, s, from, endsOf(m, s, from))
			}
		}
	}
	many := make(api.Machine, 70000)
	many[0].Arcs, many[69999] = []api.Arc{by('a', 69999)}, state(4, by('b', 0))
	mustReach(t, many, "aba", 0, 2, 3)
}

func TestEndsOfDrawnMachines(t *testing.T) {
	s := drawn.Source(102)
	edges, far := 0, 0
	for i := range 3000 {
		m := oddOrSound(&s, i)
		for range 6 {
			text := s.Bytes(8)
			from := s.Below(len(text)+3) - 1
			want := endsOf(m, text, from)
			mustEnd(t, m, text, from, want)
			edges += len(want)
			if len(want) > 0 && want[len(want)-1].To > from+2 {
				far++
			}
		}
		if t.Failed() {
			return
		}
	}
	if edges < 20000 || far < 500 {
		t.Errorf("%d edges, and %d times far ones", edges, far)
	}
}

func TestLongTexts(t *testing.T) {
	m := built(t, parse(t, "a*", "[ab]*", "a*b", "(aa)*", "")...)
	for _, length := range []int{api.MaxText, 1 << 20} {
		as := strings.Repeat("a", length)
		for _, from := range []int{0, 1, length / 2, length} {
			left := length - from
			for token, want := range []int{length, length + 1, length + 1, from + left/2*2, from} {
				mustReach(t, m, as+"b", from, token, want)
			}
			// Two at each place, one at every second one, and the empty text.
			if got, want := len(lexer.Ends(m, as, from)), 2*(left+1)+left/2+1+1; got != want {
				t.Errorf("%d edges from %d of %d bytes, want %d", got, from, length, want)
			}
		}
		l := lexer.Ends(m, as+"c", 0)
		if e := l[len(l)-1]; e.To != length {
			t.Errorf("the last edge is %v", e)
		}
	}
	text := strings.Repeat("ab", 1000) + "c"
	mustEnd(t, built(t, parse(t, "(ab)*c", "(ab)*a", "x")...), text[1990:], 0, endsOf(built(t, parse(t, "(ab)*c", "(ab)*a")...), text[1990:], 0))
	mustReach(t, built(t, parse(t, "(ab)*c", "(ab)*a", "x")...), text, 0, 0, 2001)
	mustReach(t, built(t, parse(t, "(ab)*c", "(ab)*a", "x")...), text, 0, 1, 1999)
}

// P9.4

// There is an edge exactly where a pattern matches, whatever is tried.
func TestEdgesAreWhereItMatches(t *testing.T) {
	s := drawn.Source(103)
	edges, none := 0, 0
	l, machines := builtLists(t, 600, 300)
	for i, m := range machines {
		texts := []string{"", "a", "abc", "aabb", "if x", "\x00\xff", "ab\nb"}
		for range 5 {
			texts = append(texts, s.Text(9), s.Bytes(5))
		}
		for _, text := range texts {
			for from := -1; from <= len(text)+1; from++ {
				want := matchesOf(l[i], text, from)
				if got := lexer.Ends(m, text, from); !slices.Equal(got, want) {
					t.Fatalf("Ends of %q on %q from %d = %v, want %v", shown(l[i]), text, from, got, want)
				}
				edges += len(want)
				if len(want) == 0 {
					none++
				}
			}
			for k := range l[i] {
				want := -1
				for _, e := range matchesOf(l[i], text, 0) {
					if e.Token == k {
						want = e.To
					}
				}
				mustReach(t, m, text, 0, k, want)
			}
		}
	}
	if edges < 50000 || none < 5000 {
		t.Errorf("%d edges, and %d times none", edges, none)
	}
}
