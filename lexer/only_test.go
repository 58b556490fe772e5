package lexer_test

import (
	"math"
	"testing"

	"homograph/api"
	"homograph/dfa"
	"homograph/drawn"
	"homograph/lexer"
	"homograph/minim"
	"homograph/regex"
)

// P9.3

func mustKeep(t *testing.T, name string, m api.Machine, mask uint64, want api.Machine) {
	t.Helper()
	if got := lexer.Only(m, mask); !drawn.SameMachines(got, want) {
		t.Errorf("Only(%s, %b) = %v, want %v", name, mask, got, want)
	}
}

func TestOnly(t *testing.T) {
	m := built(t, parse(t, "a", "a+", "b")...)
	for mask, want := range map[uint64]api.Machine{
		0: nil,
		1: {state(0, by('a', 1)), state(1)},
		2: {state(0, by('a', 1)), state(2, by('a', 1))},
		3: {state(0, by('a', 1)), state(3, by('a', 2)), state(2, by('a', 2))},
		4: {state(0, by('b', 1)), state(4)},
		5: {state(0, by('a', 1), by('b', 2)), state(1), state(4)},
		6: {state(0, by('a', 1), by('b', 2)), state(2, by('a', 1)), state(4)},
		7: m,
	} {
		mustKeep(t, "a, a+ and b", m, mask, want)
		mustKeep(t, "a, a+ and b", m, mask|1<<3|1<<31|1<<32|1<<63, want)
	}
	mustKeep(t, "a, a+ and b", m, math.MaxUint64, m)
	for _, mask := range []uint64{1 << 3, 1 << 31, 1 << 32, 1 << 63, math.MaxUint64 - 7} {
		mustKeep(t, "a, a+ and b", m, mask, nil)
	}
}

func TestOnlyOfEachBit(t *testing.T) {
	for k := range 64 {
		bit := uint64(1) << k
		m := api.Machine{state(bit, by('a', 1)), state(math.MaxUint64, by('b', 2)), state(^bit)}
		mustKeep(t, "all sorts", m, bit, api.Machine{state(bit, by('a', 1)), state(bit)})
		mustKeep(t, "all sorts", m, math.MaxUint64, m)
		mustKeep(t, "all sorts", m, 0, nil)
		mustKeep(t, "all sorts", m, ^bit, api.Machine{state(0, by('a', 1)), state(^bit, by('b', 2)), state(^bit)})
		mustKeep(t, "one state", api.Machine{state(bit)}, ^bit, nil)
		mustKeep(t, "one state", api.Machine{state(bit)}, bit, api.Machine{state(bit)})
	}
}

// Least joins the states that were told apart by bits that are cleared, and leaves out those that no longer lead to an end.
func TestOnlyIsLeast(t *testing.T) {
	row := api.Machine{state(0, by('a', 1)), state(1, by('a', 2)), state(2, by('a', 3)), state(4, by('a', 0))}
	mustKeep(t, "a ring", row, 7, row)
	mustKeep(t, "a ring", row, 4, api.Machine{state(0, by('a', 1)), state(0, by('a', 2)), state(0, by('a', 3)), state(4, by('a', 0))})
	row[3].Arcs = nil
	mustKeep(t, "a row", row, 1, api.Machine{state(0, by('a', 1)), state(1)})
	m := api.Machine{state(8, by('b', 1), by('x', 2)), state(9, by('b', 0), by('x', 3)), state(2), state(6)}
	mustKeep(t, "pairs", m, 8, api.Machine{state(8, by('b', 0))})
	mustKeep(t, "pairs", m, 2, api.Machine{state(0, by('b', 0), by('x', 1)), state(2)})
	mustKeep(t, "pairs", m, 4, api.Machine{state(0, by('b', 1)), state(0, by('b', 0), by('x', 2)), state(4)})
	mustKeep(t, "pairs", m, 1, api.Machine{state(0, by('b', 1)), state(1, by('b', 0))})
	// Also of a machine that isn't least itself, and of one that leads nowhere.
	double := api.Machine{state(0, by('a', 1), by('b', 2)), state(1), state(1), state(1, by('a', 1))}
	mustKeep(t, "double states", double, 1, api.Machine{state(0, arc('a', 'b', 1)), state(1)})
	mustKeep(t, "double states", double, math.MaxUint64, api.Machine{state(0, arc('a', 'b', 1)), state(1)})
	for _, mask := range []uint64{0, 1, 1 << 63, math.MaxUint64} {
		mustKeep(t, "no states", nil, mask, nil)
		mustKeep(t, "no states", api.Machine{}, mask, nil)
		mustKeep(t, "no end", api.Machine{state(0, arc(0, 255, 0))}, mask, nil)
		mustKeep(t, "an end that isn't reached", api.Machine{state(0, by('a', 0)), state(math.MaxUint64, by('a', 0))}, mask, nil)
	}
}

func TestOnlyOfRejectedMachines(t *testing.T) {
	for name, m := range drawn.RejectedMachines() {
		for _, mask := range []uint64{0, 1, 2, 3, 1 << 63, math.MaxUint64} {
			mustKeep(t, name, m, mask, nil)
		}
	}
}

func TestOnlyOfDrawnMachines(t *testing.T) {
	s := drawn.Source(104)
	sound, kept := 0, 0
	for i := range 3000 {
		m := oddOrSound(&s, i)
		mask := []uint64{0, 1, 2, 4, 5, 1 << 31, 1 << 63, 1<<63 - 1, math.MaxUint64}[s.Below(9)]
		got := lexer.Only(m, mask)
		if dfa.Check(m) != api.OK {
			mustKeep(t, "an odd machine", m, mask, nil)
			continue
		}
		sound++
		kept += len(got)
		if dfa.Check(got) != api.OK || !drawn.SameMachines(minim.Least(got), got) {
			t.Fatalf("Only(%v, %b) = %v isn't least", m, mask, got)
		}
		for range 20 {
			if text := s.Bytes(8); resultOf(got, text) != resultOf(m, text)&mask {
				t.Fatalf("Only(%v, %b) = %v and %q", m, mask, got, text)
			}
		}
		// A mask behind another one keeps what both keep.
		other := []uint64{1, 3, 1 << 31, 1 << 63, math.MaxUint64}[s.Below(5)]
		mustKeep(t, "what Only makes", got, other, lexer.Only(m, mask&other))
		mustKeep(t, "what Only makes", got, mask, got)
	}
	if sound < 1500 || kept < 2000 {
		t.Errorf("%d sound machines, and %d states that are kept", sound, kept)
	}
}

// The edges that a machine with a mask has are those with a bit of the mask.
func TestEdgesOfOnly(t *testing.T) {
	s := drawn.Source(105)
	l, machines := builtLists(t, 400, 300)
	for i, m := range machines {
		mask := uint64(s.Below(1 << 9))
		only, text := lexer.Only(m, mask), s.Text(9)
		var want []api.Edge
		for _, e := range matchesOf(l[i], text, 0) {
			if mask>>e.Token&1 == 1 {
				want = append(want, e)
			}
		}
		mustEnd(t, only, text, 0, want)
	}
}

// Only of one bit is the least machine of that pattern, which ends that bit instead of bit 0.
func TestOnlyOfOnePattern(t *testing.T) {
	l, machines := builtLists(t, 500, 300)
	for i, m := range machines {
		for k, n := range l[i] {
			alone, e := dfa.Of(n, api.MaxStates)
			if e != api.OK {
				t.Fatalf("Of(%q): %d", shown(l[i])[k], e)
			}
			alone = minim.Least(alone)
			for j := range alone {
				alone[j].Accept <<= k
			}
			mustKeep(t, "the machine of drawn patterns", m, 1<<k, alone)
		}
		for k := len(l[i]); k < 64; k++ {
			mustKeep(t, "the machine of drawn patterns", m, 1<<k, nil)
		}
		if t.Failed() {
			t.Fatalf("the patterns are %q", shown(l[i]))
		}
	}
}

// Only of the first patterns is the machine of these alone.
func TestOnlyOfTheFirstPatterns(t *testing.T) {
	l, machines := builtLists(t, 300, 300)
	for i, m := range machines {
		for k := range len(l[i]) + 1 {
			mustKeep(t, "the machine of drawn patterns", m, 1<<k-1, built(t, l[i][:k]...))
		}
	}
}

func TestOnlyOfMaxStates(t *testing.T) {
	long, short := parse(t, "[ab]*a[ab]{11}")[0], parse(t, "[ab]*a[ab]{5}")[0]
	m := built(t, long, short, regex.Alt())
	mustKeep(t, "MaxStates", m, 1, built(t, long))
	mustKeep(t, "MaxStates", m, 2, built(t, regex.Alt(), short))
	mustKeep(t, "MaxStates", m, 7, m)
	mustKeep(t, "MaxStates", m, 4, nil)
	full, more := make(api.Machine, 4096), make(api.Machine, 4097)
	full[0], more[0] = state(3), state(3)
	mustKeep(t, "MaxStates", full, 2, api.Machine{state(2)})
	mustKeep(t, "one more than MaxStates", more, 2, nil)
}
