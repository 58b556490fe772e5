package dfa_test

import (
	"math"
	"strings"
	"testing"

	"homograph/api"
	"homograph/dfa"
	"homograph/drawn"
)

// P7.2

func mustNext(t *testing.T, m api.Machine, state int, b uint8, want int) {
	t.Helper()
	if got := dfa.Next(m, state, b); got != want {
		t.Errorf("Next(%v, %d, %d) = %d, want %d", m, state, b, got, want)
	}
}

func mustRun(t *testing.T, m api.Machine, s string, want int) {
	t.Helper()
	if got := dfa.Run(m, s); got != want {
		t.Errorf("Run(%v, %q) = %d, want %d", m, s, got, want)
	}
}

func mustBeWhole(t *testing.T, m api.Machine, s string, want bool) {
	t.Helper()
	if got := dfa.Whole(m, s); got != want {
		t.Errorf("Whole(%v, %q) = %t", m, s, got)
	}
}

func TestNext(t *testing.T) {
	m := api.Machine{state(0, arc(0, 0, 1), arc('b', 'd', 2), arc('e', 'e', 0), arc('x', 255, 1)), state(1), state(2, arc('a', 'z', 2))}
	for b := range 256 {
		want := -1
		switch {
		case b == 0, b >= 'x':
			want = 1
		case b >= 'b' && b <= 'd':
			want = 2
		case b == 'e':
			want = 0
		}
		mustNext(t, m, 0, uint8(b), want)
		mustNext(t, m, 1, uint8(b), -1)
		mustNext(t, api.Machine{state(0, arc(0, 255, 0))}, 0, uint8(b), 0)
		mustNext(t, api.Machine{state(0, arc(uint8(b), uint8(b), 7))}, 0, uint8(b), 7)
		mustNext(t, api.Machine{state(0, arc(uint8(b), uint8(b), 7))}, 0, uint8(b+1), -1)
		mustNext(t, api.Machine{state(0, arc(uint8(b), uint8(b), 7))}, 0, uint8(b-1), -1)
	}
	mustNext(t, m, 2, 'a', 2)
	mustNext(t, m, 2, 'z', 2)
	mustNext(t, m, 2, '`', -1)
	mustNext(t, m, 2, '{', -1)
}

func TestNextOfWhatIsNoState(t *testing.T) {
	m := api.Machine{state(1, arc(0, 255, 0)), state(1, arc(0, 255, 1))}
	for _, state := range []int{-1, -2, math.MinInt, 2, 3, 4096, math.MaxInt} {
		mustNext(t, m, state, 'a', -1)
		mustNext(t, nil, state, 'a', -1)
		mustNext(t, api.Machine{}, state, 0, -1)
	}
	mustNext(t, nil, 0, 'a', -1)
	mustNext(t, m, 1, 'a', 1)
}

// Of machines that Check rejects, the first arc counts, and where it leads is told whatever it is.
func TestNextOfMachinesThatMayNotBe(t *testing.T) {
	m := api.Machine{
		state(0, arc('a', 'c', 1), arc('b', 'd', 2)),
		state(0, arc('b', 'd', 2), arc('a', 'c', 1)),
		state(0, arc('x', 'z', 1), arc('a', 'c', 2), arc('a', 'z', 0)),
		state(0, arc('c', 'a', 1), arc('b', 'b', 2)),
		state(0, arc('a', 'a', -1), arc('a', 'a', 1)),
		state(0, arc('a', 'a', -7), arc('b', 'b', 99), arc('c', 'c', math.MaxInt), arc('d', 'd', math.MinInt), arc(255, 0, 1)),
	}
	for _, c := range []struct {
		state int
		bytes string
		want  []int
	}{
		{0, "abcde", []int{1, 1, 1, 2, -1}}, {1, "abcde", []int{1, 2, 2, 2, -1}}, {2, "acdwxz{", []int{2, 2, 0, 0, 1, 1, -1}},
		{3, "abc", []int{-1, 2, -1}}, {4, "ab", []int{-1, -1}}, {5, "abcde\x00\xff", []int{-7, 99, math.MaxInt, math.MinInt, -1, -1, -1}},
	} {
		for i := range len(c.bytes) {
			mustNext(t, m, c.state, c.bytes[i], c.want[i])
		}
	}
}

func TestRunAndWhole(t *testing.T) {
	// a, then any number of b or c; d leads to what accepts and has no arcs; z from there is nowhere.
	m := api.Machine{state(0, arc('a', 'a', 1)), state(0, arc('b', 'c', 1), arc('d', 'd', 2)), state(1)}
	for s, want := range map[string]int{"": 0, "a": 1, "ab": 1, "abcbc": 1, "ad": 2, "abcd": 2, "b": -1, "aa": -1, "adz": -1, "ada": -1, "az": -1, "azd": -1, "ba": -1, "a\x00": -1, "a\xff": -1} {
		mustRun(t, m, s, want)
		mustBeWhole(t, m, s, want == 2)
	}
	for _, accept := range []uint64{1, 2, 3, 1 << 31, 1 << 63, math.MaxUint64} {
		m[0].Accept, m[2].Accept = accept, 0
		mustBeWhole(t, m, "", true)
		mustBeWhole(t, m, "a", false)
		mustBeWhole(t, m, "ad", false)
	}
	// A text is bytes, not runes.
	m = api.Machine{state(0, arc(0xc3, 0xc3, 1)), state(0, arc(0xa9, 0xa9, 2)), state(1)}
	mustRun(t, m, "\u00e9", 2)
	mustRun(t, m, "\xc3", 1)
	mustRun(t, m, "\xe9", -1)
}

func TestRunOfMachinesWithoutStatesOrArcs(t *testing.T) {
	for _, s := range []string{"", "a", "abc", "\x00"} {
		mustRun(t, nil, s, -1)
		mustRun(t, api.Machine{}, s, -1)
		mustBeWhole(t, nil, s, false)
		mustBeWhole(t, api.Machine{}, s, false)
		mustBeWhole(t, api.Machine{state(1)}, s, s == "")
		mustBeWhole(t, api.Machine{state(0), state(1)}, s, false)
	}
	mustRun(t, api.Machine{{}}, "", 0)
	mustRun(t, api.Machine{{}}, "a", -1)
}

// What Next tells for the last byte is what Run tells, and from what is no state it goes nowhere.
func TestRunToWhatIsNoState(t *testing.T) {
	m := api.Machine{
		state(1, arc('a', 'a', 9), arc('b', 'b', -7), arc('c', 'c', -1), arc('d', 'd', 2), arc('e', 'e', 1), arc('f', 'f', math.MaxInt), arc('g', 'g', math.MinInt)),
		state(1, arc(0, 255, 0), arc(0, 255, 1)),
	}
	for s, want := range map[string]int{
		"a": 9, "b": -7, "c": -1, "d": 2, "e": 1, "f": math.MaxInt, "g": math.MinInt, "ea": 0, "eaa": 9, "eab": -7, "eaf": math.MaxInt,
		"aa": -1, "bb": -1, "cc": -1, "dd": -1, "ff": -1, "gg": -1, "ae": -1, "be": -1, "aee": -1, "eaaa": -1,
	} {
		mustRun(t, m, s, want)
		mustBeWhole(t, m, s, want == 0 || want == 1)
	}
}

func TestRunOfDrawnMachines(t *testing.T) {
	s := drawn.Source(3)
	far, whole := 0, 0
	for i := range 4000 {
		m := s.OddMachine()
		if i%2 == 0 {
			m = s.Machine(6)
		}
		for range 20 {
			at, b := s.Below(9)-2, uint8(s.Below(256))
			mustNext(t, m, at, b, nextOf(m, at, b))
			text := s.Bytes(8)
			mustRun(t, m, text, runOf(m, text))
			mustBeWhole(t, m, text, wholeOf(m, text))
			if len(text) > 3 && runOf(m, text) >= 0 {
				far++
			}
			if wholeOf(m, text) {
				whole++
			}
		}
	}
	if far < 1000 || whole < 1000 {
		t.Errorf("%d and %d texts were gone through", far, whole)
	}
}

func TestLongTexts(t *testing.T) {
	as, abs := strings.Repeat("a", api.MaxText), strings.Repeat("ab", 1<<20)
	for _, c := range []struct {
		pattern, text string
		want          bool
	}{
		{"a*", as, true}, {"a*", as + "b", false}, {"a*", "b" + as, false}, {"(ab)*", abs, true}, {"(ab)*", abs + "a", false}, {"(a|b)*abb", abs, false}, {"(a|b)*abb", abs + "b", true}, {"~((a|b)*abb)", abs + "b", false}, {"~((a|b)*abb)", abs, true},
		{"[ab]*a[ab]{8}", abs, false}, {"[ab]*a[ab]{8}", abs + "a", true}, {"(aa)*", as, true}, {"(aa)*", as[1:], false}, {"(.*a.*)&(.*b.*)", abs, true}, {"(.*a.*)&(.*b.*)", as, false}, {"[^]*", abs, true}, {"a{32}{32}", as, false}, {"a{32}{32}", as[:1024], true},
	} {
		if got := dfa.Whole(made(t, parse(t, c.pattern)), c.text); got != c.want {
			t.Errorf("Whole of %s and %d bytes = %t", c.pattern, len(c.text), got)
		}
	}
}
