package minim_test

import (
	"math"
	"slices"
	"strings"
	"testing"

	"homograph/api"
	"homograph/dfa"
	"homograph/drawn"
	"homograph/minim"
)

// P8.1: Useful

func TestUseful(t *testing.T) {
	end := state(1)
	for name, c := range map[string]struct {
		m    api.Machine
		want []bool
	}{
		"no states":                       {nil, nil},
		"one that ends something":         {api.Machine{end}, []bool{true}},
		"one that ends nothing":           {api.Machine{state(0)}, []bool{false}},
		"one that ends nothing, a loop":   {api.Machine{state(0, arc(0, 255, 0))}, []bool{false}},
		"one that ends something, a loop": {api.Machine{state(4, arc(0, 255, 0))}, []bool{true}},
		"all in a row":                    {api.Machine{state(0, by('a', 1)), state(0, by('a', 2)), end}, []bool{true, true, true}},
		"a row backward":                  {api.Machine{state(0, by('a', 2)), end, state(0, by('a', 1))}, []bool{true, true, true}},
		"not reached":                     {api.Machine{end, state(1, by('a', 0)), state(0, by('b', 1))}, []bool{true, false, false}},
		"not reached but from itself":     {api.Machine{end, state(1, by('a', 1))}, []bool{true, false}},
		"no end behind it":                {api.Machine{state(1, by('a', 1)), state(0, by('a', 2)), state(0, by('b', 1))}, []bool{true, false, false}},
		"no end behind the first":         {api.Machine{state(0, by('a', 1)), state(0, by('a', 0)), state(1, by('a', 0))}, []bool{false, false, false}},
		"an end only where nobody comes":  {api.Machine{state(0, by('a', 0)), state(math.MaxUint64)}, []bool{false, false}},
		"an end ahead of no end":          {api.Machine{state(0, by('a', 1)), state(2, by('b', 2)), state(0, by('c', 2))}, []bool{true, true, false}},
		"the end is the first":            {api.Machine{state(1, by('a', 1)), state(0, by('b', 0)), state(0)}, []bool{true, true, false}},
		"reached by bytes 0 and 255":      {api.Machine{state(0, by(0, 1), by(255, 2)), state(1 << 63), state(2)}, []bool{true, true, true}},
		"two loops, one with an end":      {api.Machine{state(0, by('a', 1), by('b', 3)), state(0, by('x', 2)), state(0, by('x', 1)), state(0, by('x', 4)), state(8, by('x', 3))}, []bool{true, false, false, true, true}},
	} {
		mustUse(t, name, c.m, c.want...)
	}
}

func TestUsefulOfDrawnMachines(t *testing.T) {
	yes, no := 0, 0
	for _, m := range machines(1500) {
		want := usefulOf(m)
		mustUse(t, "a drawn machine", m, want...)
		if t.Failed() {
			t.Fatalf("wrong with %v", m)
		}
		for _, ok := range want {
			if ok {
				yes++
			} else {
				no++
			}
		}
	}
	if yes < 3000 || no < 3000 {
		t.Errorf("%d states are useful, %d aren't", yes, no)
	}
}

// P8.1: Least

func TestLeast(t *testing.T) {
	all := api.Machine{state(1, arc(0, 255, 0))}
	one := api.Machine{state(0, arc('a', 'b', 1)), state(1)}
	for name, c := range map[string]struct{ m, want api.Machine }{
		"no states": {nil, nil}, "no states, not nil": {api.Machine{}, nil},
		// What the chapter's example is.
		"a|b with two ends":           {api.Machine{state(0, by('a', 1), by('b', 2)), state(1), state(1)}, one},
		"a|b with one end":            {one, one},
		"an end that isn't reached":   {api.Machine{state(1), state(1)}, api.Machine{state(1)}},
		"two that are alike, no ends": {api.Machine{state(0, by('a', 1), by('b', 2)), state(0, by('c', 3)), state(0, by('c', 3)), state(1)}, api.Machine{state(0, arc('a', 'b', 1)), state(0, by('c', 2)), state(1)}},
		"the first like another one":  {api.Machine{state(1, by('a', 1)), state(1, by('a', 0))}, api.Machine{state(1, by('a', 0))}},
		"a ring that is all alike":    {api.Machine{state(1, by('a', 1)), state(1, by('a', 2)), state(1, by('a', 0))}, api.Machine{state(1, by('a', 0))}},
		"a ring of two and two":       {api.Machine{state(0, by('a', 1)), state(1, by('a', 2)), state(0, by('a', 3)), state(1, by('a', 0))}, api.Machine{state(0, by('a', 1)), state(1, by('a', 0))}},
		"all texts, by many states":   {api.Machine{state(1, arc(0, 9, 1), arc(10, 255, 2)), state(1, arc(0, 99, 0), arc(100, 255, 2)), state(1, arc(0, 255, 1))}, all},
		"a state without an end":      {api.Machine{state(1, by('a', 1), by('b', 2)), state(0, by('a', 1)), state(1)}, api.Machine{state(1, by('b', 1)), state(1)}},
		"only by nowhere apart":       {api.Machine{state(1, by('a', 1)), state(1, by('b', 1))}, api.Machine{state(1, by('a', 1)), state(1, by('b', 1))}},
		"to nowhere or to no end":     {api.Machine{state(0, by('a', 1), by('b', 2)), state(1, by('x', 3)), state(1), state(0, arc(0, 255, 3))}, one},
		"ends of two values":          {api.Machine{state(0, by('a', 1), by('b', 2)), state(1), state(2)}, api.Machine{state(0, by('a', 1), by('b', 2)), state(1), state(2)}},
		"ends of two values, by turn": {api.Machine{state(2, by('a', 1)), state(1, by('a', 2)), state(2, by('a', 1))}, api.Machine{state(2, by('a', 1)), state(1, by('a', 0))}},
	} {
		mustBe(t, name, c.m, c.want)
	}
}

func TestLeastOfWhatEndsNothing(t *testing.T) {
	for name, m := range map[string]api.Machine{
		"one state": {state(0)}, "a loop": {state(0, arc(0, 255, 0))}, "a ring": {state(0, by('a', 1)), state(0, by('a', 0))},
		"an end that isn't reached": {state(0, by('a', 1)), state(0), state(1, arc(0, 255, 0))}, "MaxStates": make(api.Machine, api.MaxStates),
	} {
		if got := minim.Least(m); len(got) != 0 {
			t.Errorf("Least of %s = %v", name, got)
		}
		mustUse(t, name, m, make([]bool, len(m))...)
		mustEnd(t, name, m, "", false)
	}
}

// Which byte of which state leads to a state first gives it its number.
func TestOrderOfStates(t *testing.T) {
	for name, c := range map[string]struct{ m, want api.Machine }{
		"another order in the given one": {
			api.Machine{state(0, by('a', 3), by('b', 2), by('c', 1)), state(1), state(2), state(3)},
			api.Machine{state(0, by('a', 1), by('b', 2), by('c', 3)), state(3), state(2), state(1)},
		},
		"by bytes 0, 1, 128 and 255": {
			api.Machine{state(0, by(0, 4), by(1, 2), by(128, 3), by(255, 1)), state(1), state(2), state(3), state(4)},
			api.Machine{state(0, by(0, 1), by(1, 2), by(128, 3), by(255, 4)), state(4), state(2), state(3), state(1)},
		},
		"all of the first ahead of those of the second": {
			api.Machine{state(0, by('a', 4), by('z', 3)), state(5), state(6), state(0, by('a', 1)), state(0, by('a', 2), by('b', 1))},
			api.Machine{state(0, by('a', 1), by('z', 2)), state(0, by('a', 3), by('b', 4)), state(0, by('a', 4)), state(6), state(5)},
		},
		"the second's ahead of the third's, by a greater byte": {
			api.Machine{state(0, by('a', 1), by('b', 2)), state(0, by('z', 3)), state(0, by('a', 4)), state(5), state(6)},
			api.Machine{state(0, by('a', 1), by('b', 2)), state(0, by('z', 3)), state(0, by('a', 4)), state(5), state(6)},
		},
		"back to the first ahead of the others": {
			api.Machine{state(0, by('a', 0), by('b', 2), by('c', 1)), state(1, by('b', 0)), state(2, by('a', 1), by('b', 2), by('c', 0))},
			api.Machine{state(0, by('a', 0), by('b', 1), by('c', 2)), state(2, by('a', 2), by('b', 1), by('c', 0)), state(1, by('b', 0))},
		},
		// What is like 3 is 1, which is come to by the least byte.
		"by one that is alike": {
			api.Machine{state(0, by('a', 3), by('b', 2), by('c', 1)), state(1), state(2), state(1)},
			api.Machine{state(0, by('a', 1), by('b', 2), by('c', 1)), state(1), state(2)},
		},
		"without those that aren't useful": {
			api.Machine{state(0, by('a', 2), by('b', 4), by('c', 3)), state(1, by('a', 3)), state(0, by('a', 2)), state(1), state(2, by('x', 2), by('y', 3))},
			api.Machine{state(0, by('b', 1), by('c', 2)), state(2, by('y', 2)), state(1)},
		},
	} {
		mustBe(t, name, c.m, c.want)
		mustBe(t, name+", again", c.want, c.want)
	}
}

func TestArcsOfLeast(t *testing.T) {
	for name, c := range map[string]struct{ m, want api.Machine }{
		"two that become one":            {api.Machine{state(0, arc('a', 'f', 1), arc('g', 'k', 2)), state(1), state(1)}, api.Machine{state(0, arc('a', 'k', 1)), state(1)}},
		"two that don't, one byte apart": {api.Machine{state(0, arc('a', 'f', 1), arc('h', 'k', 2)), state(1), state(1)}, api.Machine{state(0, arc('a', 'f', 1), arc('h', 'k', 1)), state(1)}},
		"three, of which two become one": {api.Machine{state(0, by('a', 1), by('b', 3), by('c', 2)), state(1), state(1), state(1, by('x', 3))}, api.Machine{state(0, by('a', 1), by('b', 2), by('c', 1)), state(1), state(1, by('x', 2))}},
		"all bytes":                      {api.Machine{state(0, arc(0, 127, 1), arc(128, 255, 2)), state(1), state(1)}, api.Machine{state(0, arc(0, 255, 1)), state(1)}},
		"bytes 0 and 255":                {api.Machine{state(0, by(0, 1), by(255, 2)), state(1), state(1)}, api.Machine{state(0, by(0, 1), by(255, 1)), state(1)}},
		"all but 0 and 255":              {api.Machine{state(1, arc(1, 254, 0))}, api.Machine{state(1, arc(1, 254, 0))}},
		"bytes 0 and 255 to others":      {api.Machine{state(1, by(0, 1), arc(1, 254, 0), by(255, 2)), state(2), state(3)}, api.Machine{state(1, by(0, 1), arc(1, 254, 0), by(255, 2)), state(2), state(3)}},
		"a gap where no end was":         {api.Machine{state(1, arc(0, 'a', 0), by('b', 1), arc('c', 255, 0)), state(0, by('a', 1))}, api.Machine{state(1, arc(0, 'a', 0), arc('c', 255, 0))}},
		"none where no end was":          {api.Machine{state(1, arc(0, 255, 1)), state(0, by('a', 1))}, api.Machine{state(1)}},
	} {
		mustBe(t, name, c.m, c.want)
	}
	// Each byte to a state of its own, which are all alike, or all alike but for one.
	each := make(api.Machine, 257)
	for b := range 256 {
		each[0].Arcs = append(each[0].Arcs, by(uint8(b), b+1))
		each[b+1].Accept = 1
	}
	mustBe(t, "256 that are alike", each, api.Machine{state(0, arc(0, 255, 1)), state(1)})
	for _, b := range []uint8{1, 'a', 254} {
		each[int(b)+1].Accept = 0
		mustBe(t, "255 that are alike", each, api.Machine{state(0, arc(0, b-1, 1), arc(b+1, 255, 1)), state(1)})
		each[int(b)+1].Accept = math.MaxUint64
		mustBe(t, "all but one that are alike", each, api.Machine{state(0, arc(0, b-1, 1), by(b, 2), arc(b+1, 255, 1)), state(1), state(math.MaxUint64)})
		each[int(b)+1].Accept = 1
	}
}

func TestAcceptsOfManyValues(t *testing.T) {
	values := []uint64{1, 2, 3, 1 << 31, 1 << 32, 1<<32 + 1, 1 << 62, 1 << 63, 1<<63 + 1, math.MaxUint64 - 1, math.MaxUint64}
	twice := api.Machine{state(0)}
	once := api.Machine{state(0)}
	for i, v := range values {
		lo := uint8(2 * i)
		twice[0].Arcs = append(twice[0].Arcs, by(lo, 2*i+1), by(lo+1, 2*i+2))
		twice = append(twice, state(v), state(v))
		once[0].Arcs = append(once[0].Arcs, arc(lo, lo+1, i+1))
		once = append(once, state(v))
		mustBe(t, "one state", api.Machine{state(v, by('a', 0))}, api.Machine{state(v, by('a', 0))})
		mustUse(t, "one state", api.Machine{state(v)}, true)
		for j, w := range values {
			a, b := api.Machine{state(v, by('a', 0))}, api.Machine{state(w, by('a', 1)), state(w, by('a', 0))}
			if i == j {
				mustBeAlike(t, "the same value", a, b)
			} else {
				mustDiffer(t, "two values", a, b, "")
			}
		}
	}
	mustBe(t, "a machine with each value twice", twice, once)
	mustBeAlike(t, "each value once and twice", once, twice)
}

// Classes that come apart only after many others have.
func TestStatesThatAreAlikeForLong(t *testing.T) {
	for _, length := range []int{2, 3, 10, 100, 1000} {
		// Two rows that differ only in their last states, and one more that is like the first one.
		m := api.Machine{state(0, by('a', 1), by('b', length+1), by('c', 2*length+1))}
		want := api.Machine{state(0, by('a', 1), by('b', 2), by('c', 1))}
		for row, end := range []uint64{1, 2, 1} {
			for i := range length - 1 {
				m = append(m, state(0, by('x', row*length+i+2)))
			}
			m = append(m, state(end))
		}
		for i := range length {
			for row := range 2 {
				next := state(0, by('x', 2*i+row+3))
				if i == length-1 {
					next = state(uint64(row + 1))
				}
				want = append(want, next)
			}
		}
		mustBe(t, "three rows", m, want)
		xs := strings.Repeat("x", length-1)
		ahead := api.Machine{state(0, by('a', 1), by('b', length+1), by('c', 2*length+1))}
		mustDiffer(t, "rows by other bytes", m, append(ahead, append(slices.Clone(m[1:3*length]), state(2))...), "c"+xs)
	}
}

func TestLeastOfDrawnMachines(t *testing.T) {
	s := drawn.Source(81)
	merged, kept := 0, 0
	for _, m := range machines(1500) {
		got, want := minim.Least(m), leastOf(m)
		if dfa.Check(m) != api.OK || !drawn.SameMachines(got, want) || dfa.Check(got) != api.OK {
			t.Fatalf("Least of %v = %v, want %v", m, got, want)
		}
		kept += len(got)
		merged += len(m) - len(got)
		for range 30 {
			if text := s.Bytes(12); resultOf(got, text) != resultOf(m, text) {
				t.Fatalf("Least of %v and %s", m, shown(text))
			}
		}
		mustUse(t, "a Least", got, slices.Repeat([]bool{true}, len(got))...)
		mustBe(t, "a machine in another order", shuffled(&s, m), got)
		mustBe(t, "a Least in another order", shuffled(&s, got), got)
	}
	if merged < 3000 || kept < 2500 {
		t.Errorf("%d states were left out, %d kept", merged, kept)
	}
}

// No two states of a Least are alike, and none is like nowhere: from each of them, taken as the first one, another text is the shortest to differ.
func TestNoTwoStatesOfLeastAreAlike(t *testing.T) {
	for _, m := range machines(500) {
		least := minim.Least(m)
		for i := range least {
			from := begunAt(least, i)
			if text, ok := minim.Shortest(from); !ok || resultOf(from, text) == 0 {
				t.Fatalf("state %d of %v ends nothing", i, least)
			}
			for j := range i {
				other := begunAt(least, j)
				if text, ok := minim.Differ(from, other); !ok || resultOf(from, text) == resultOf(other, text) {
					t.Fatalf("states %d and %d of %v are alike", i, j, least)
				}
			}
		}
	}
}

// begunAt is a machine that begins at another state, which changes places with the first one.
func begunAt(m api.Machine, first int) api.Machine {
	place := func(i int) int {
		switch i {
		case 0:
			return first
		case first:
			return 0
		}
		return i
	}
	out := drawn.CopyMachine(m)
	out[0], out[first] = out[first], out[0]
	for i := range out {
		for j := range out[i].Arcs {
			out[i].Arcs[j].To = place(out[i].Arcs[j].To)
		}
	}
	return out
}

// P8.3

func TestLeastOfLeast(t *testing.T) {
	for _, m := range machines(1000) {
		least := minim.Least(m)
		mustBe(t, "a Least", least, least)
		mustBeAlike(t, "a machine and its Least", m, least)
	}
}

func TestAlikeJustIfLeastAreTheSame(t *testing.T) {
	// Machines so small that many are alike.
	s := drawn.Source(82)
	var l []api.Machine
	for i := range 160 {
		m := make(api.Machine, s.Below(4))
		for j := range m {
			m[j].Accept = uint64(s.Below(2))
			for _, b := range []uint8{0, 'a', 255} {
				if to := s.Below(2*len(m)) - len(m); to >= 0 {
					m[j].Arcs = append(m[j].Arcs, by(b, to))
				}
			}
		}
		if i%2 == 0 {
			m = blown(&s, m)
		}
		l = append(l, m)
	}
	same, other := 0, 0
	for i, a := range l {
		for _, b := range l[:i] {
			alike := drawn.SameMachines(minim.Least(a), minim.Least(b))
			text, found := differOf(a, b)
			if alike == found {
				t.Fatalf("Least of %v and of %v: %t", a, b, alike)
			}
			if alike {
				same++
				mustBeAlike(t, "two machines of one Least", a, b)
			} else {
				other++
				mustDiffer(t, "two machines of two Leasts", a, b, text)
			}
		}
	}
	if same < 1000 || other < 1000 {
		t.Errorf("%d are alike, %d aren't", same, other)
	}
}

// Patterns that match the same have the same Least, whatever their normal forms.
func TestLeastOfPatternsThatMatchTheSame(t *testing.T) {
	for _, l := range [][]string{
		{"a|b", "[ab]", "b|a|a", "~(~a&~b)"}, {"(a|b)*", "(a*b*)*", "[ab]*", "(a*|b)*", "~(~([ab]*))", "(a|b|ab)*"}, {"aa*", "a+", "a*a", "a*&~()", "aa*|a(a*|)"}, {"", "()", "[]*", "a{0}", "a*&b*"}, {"[]", "a&b", "ab&ac", "a&~([^]*)"},
		{"[^]*", "~[]", "~(a&b)", "~(ab&ac)", "a|~a"}, {"a?a?a?", "a{0,3}", "(a|aa|aaa|)", "a*&~(aaaa+)"}, {"(ab)*a", "a(ba)*"}, {".*b.*&[ab]*", "[ab]*b[ab]*", "a*b(a|b)*"}, {"(aa)*&(aaa)*", "(a{6})*", "(aaaaaa)*"},
	} {
		first := minim.Least(drawn.MachineOf(l[0]))
		for _, s := range l[1:] {
			mustBe(t, s, drawn.MachineOf(s), first)
			mustBeAlike(t, l[0]+" and "+s, drawn.MachineOf(l[0]), drawn.MachineOf(s))
		}
	}
}
