package minim_test

import (
	"slices"
	"strings"
	"testing"

	"homograph/api"
	"homograph/dfa"
	"homograph/drawn"
	"homograph/minim"
)

// What dfa.Check rejects is like a machine without states.

func TestRejectedMachines(t *testing.T) {
	for name, m := range drawn.RejectedMachines() {
		if dfa.Check(m) != api.ErrCode {
			t.Fatalf("Check accepts %s", name)
		}
		if got := minim.Least(m); len(got) != 0 {
			t.Errorf("Least of %s = %v", name, got)
		}
		if got := minim.Useful(m); len(got) != 0 {
			t.Errorf("Useful of %s = %v", name, got)
		}
		mustEnd(t, name, m, "", false)
		mustBeAlike(t, name+" and itself", m, m)
		mustBeAlike(t, name+" and what ends nothing", m, api.Machine{state(0, arc(0, 255, 0))})
		mustDiffer(t, name+" and a*", m, drawn.MachineOf("a*"), "")
		mustDiffer(t, name+" and bab", m, drawn.MachineOf("bab"), "bab")
		for other, n := range drawn.RejectedMachines() {
			mustBeAlike(t, name+" and "+other, m, n)
		}
	}
}

func TestDrawnMachinesThatMayNotBe(t *testing.T) {
	s := drawn.Source(90)
	was := 0
	for range 8000 {
		a, b := s.OddMachine(), s.OddMachine()
		if dfa.Check(a) == api.OK {
			was++
			mustUse(t, "an odd machine that may be", a, usefulOf(a)...)
			mustBe(t, "an odd machine that may be", a, leastOf(a))
		} else {
			mustUse(t, "an odd machine", a)
			mustBe(t, "an odd machine", a, nil)
			mustEnd(t, "an odd machine", a, "", false)
		}
		text, ok := minim.Shortest(b)
		if dfa.Check(b) != api.OK || dfa.Check(a) == api.OK {
			continue
		}
		if ok {
			mustDiffer(t, "an odd machine and one that may be", a, b, text)
		} else {
			mustBeAlike(t, "an odd machine and one that may be", a, b)
		}
	}
	if was < 1000 || was > 7000 {
		t.Errorf("%d machines may be", was)
	}
}

// Rule 1: every call returns, also of machines as large as may be.

func TestMaxStates(t *testing.T) {
	const most = api.MaxStates
	alike, row, numbers := make(api.Machine, most), make(api.Machine, most), make(api.Machine, most)
	for i := range most {
		next := min(i+1, most-1)
		alike[i] = state(3, arc(0, 255, (i+7)%most))
		row[i] = state(0, arc('a', 'a', next))
		numbers[i] = state(uint64(i), arc(0, 255, next))
	}
	row[most-1] = state(1)
	mustBe(t, "MaxStates that are alike", alike, api.Machine{state(3, arc(0, 255, 0))})
	mustUse(t, "MaxStates that are alike", alike, slices.Repeat([]bool{true}, most)...)
	mustBe(t, "a row of MaxStates", row, row)
	mustUse(t, "a row of MaxStates", row, slices.Repeat([]bool{true}, most)...)
	mustEnd(t, "a row of MaxStates", row, strings.Repeat("a", most-1), true)
	mustBe(t, "MaxStates with an end each", numbers, numbers)
	mustEnd(t, "MaxStates with an end each", numbers, "\x00", true)
	mustDiffer(t, "MaxStates that are alike and a row", alike, row, "")
	mustBe(t, "one more than MaxStates", append(row[:most:most], state(1)), nil)
	mustUse(t, "one more than MaxStates", append(row[:most:most], state(1)))

	// No two of these states are alike: they keep which of the last twelve bytes were an a.
	m := drawn.MachineOf("[ab]*a[ab]{11}")
	mustBe(t, "a pattern of MaxStates", m, m)
	mustEnd(t, "a pattern of MaxStates", m, strings.Repeat("a", 12), true)
	mustBeAlike(t, "a pattern of MaxStates and itself", m, m)
	s := drawn.Source(91)
	mustBe(t, "a pattern of MaxStates in another order", shuffled(&s, m), m)
	mustDiffer(t, "two patterns of many states", m, drawn.MachineOf("[ab]*a[ab]{10}"), strings.Repeat("a", 11))
}

// An arc for every byte of as many states as may be, with ends that are drawn: rarely so that all are alike.
func TestManyArcs(t *testing.T) {
	s := drawn.Source(92)
	for _, ends := range []int{1, 2, 40} {
		m := make(api.Machine, api.MaxStates)
		for i := range m {
			m[i].Accept = uint64(1 + s.Below(ends))
			for b := range 256 {
				to := s.Below(len(m))
				if b > 0 && to == m[i].Arcs[b-1].To {
					to = (to + 1) % len(m)
				}
				m[i].Arcs = append(m[i].Arcs, by(uint8(b), to))
			}
		}
		mustUse(t, "drawn arcs", m, slices.Repeat([]bool{true}, len(m))...)
		least := minim.Least(m)
		if ends == 1 {
			mustBe(t, "drawn arcs, all alike", m, api.Machine{state(1, arc(0, 255, 0))})
		} else if len(least) != len(m) {
			t.Errorf("Least has %d of %d states", len(least), len(m))
		}
		mustBe(t, "drawn arcs in another order", shuffled(&s, m), least)
		mustBeAlike(t, "drawn arcs and Least", m, least)
		for range 20 {
			if text := s.Bytes(20); resultOf(m, text) != resultOf(least, text) {
				t.Errorf("Least of drawn arcs and %s", shown(text))
			}
		}
	}
}

// One state after the other comes apart from those that are still alike, which takes long if each time all are looked at.
func TestStatesThatComeApartOneByOne(t *testing.T) {
	const most = api.MaxStates
	m := make(api.Machine, most)
	for i := range m {
		m[i] = state(1, arc(0, 99, min(i+1, most-1)), arc(101, 199, 0), arc(201, 255, i/2))
	}
	m[most-1].Accept = 2
	least := minim.Least(m)
	if len(least) != most {
		t.Errorf("%d of %d states", len(least), most)
	}
	mustBeAlike(t, "a machine and its Least", m, least)
	other := drawn.CopyMachine(m)
	other[most-1].Accept = 3
	mustDiffer(t, "machines that go back", m, other, strings.Repeat("\x00", most-1))
}

// Rule 3: arguments are neither modified nor retained, and results are in new memory.

func TestMachinesAreNotModified(t *testing.T) {
	s := drawn.Source(93)
	l := append(machines(300), drawn.MachineOf("[ab]*a[ab]{4}"))
	for i := range 300 {
		if m := s.OddMachine(); i%3 > 0 {
			l = append(l, m)
		}
	}
	for i, m := range l {
		arg, want := drawn.RoomyMachine(m), drawn.CopyMachine(drawn.WholeRoom(drawn.RoomyMachine(m)))
		other := drawn.RoomyMachine(l[s.Below(i+1)])
		wantOther := drawn.CopyMachine(drawn.WholeRoom(other))
		least, useful := minim.Least(arg), minim.Useful(arg)
		first, ends := minim.Shortest(arg)
		text, found := minim.Differ(arg, other)
		if alike := minim.Alike(other, arg); alike == found {
			t.Fatalf("Alike and Differ of %v and %v", m, other)
		}
		if !drawn.SameMachines(drawn.WholeRoom(arg), want) || !drawn.SameMachines(drawn.WholeRoom(other), wantOther) {
			t.Fatalf("a call modified %v or %v", m, other)
		}
		wantLeast, wantUseful := drawn.CopyMachine(least), slices.Clone(useful)
		drawn.SpoilMachine(arg)
		if !drawn.SameMachines(least, wantLeast) || !slices.Equal(useful, wantUseful) {
			t.Fatalf("a result changed with its argument %v", m)
		}
		mustBe(t, "the same machine again", m, wantLeast)
		mustUse(t, "the same machine again", m, wantUseful...)
		mustEnd(t, "the same machine again", m, first, ends)
		if again, ok := minim.Differ(m, other); again != text || ok != found {
			t.Fatalf("Differ of %v and %v changed", m, other)
		}
	}
}

func TestListsOfLeastAreApart(t *testing.T) {
	for _, m := range append(machines(300), drawn.MachineOf("[ab]*a[ab]{4}")) {
		arg := drawn.RoomyMachine(m)
		whole := drawn.CopyMachine(drawn.WholeRoom(arg))
		least := minim.Least(arg)
		if drawn.SharesLists(least) {
			t.Fatalf("states of Least of %v share memory", m)
		}
		drawn.SpoilMachine(least)
		if !drawn.SameMachines(drawn.WholeRoom(arg), whole) {
			t.Fatalf("Least shares memory with its argument %v", m)
		}
	}
}

func TestNothingIsKeptFromCallToCall(t *testing.T) {
	for _, m := range machines(300) {
		least, useful := minim.Least(m), minim.Useful(m)
		wantLeast, wantUseful := drawn.CopyMachine(least), slices.Clone(useful)
		drawn.SpoilMachine(least)
		for i := range useful {
			useful[i] = !useful[i]
		}
		mustBe(t, "a machine whose Least was spoilt", m, wantLeast)
		mustUse(t, "a machine whose Useful was spoilt", m, wantUseful...)
	}
}

// Where lists have no elements, it makes no difference whether they are nil.
func TestNilAndEmptyLists(t *testing.T) {
	a := api.Machine{{Accept: 1, Arcs: []api.Arc{}}, {Arcs: []api.Arc{}}}
	b := api.Machine{{Accept: 1}, {}}
	mustBe(t, "empty lists", a, api.Machine{state(1)})
	mustBe(t, "nil lists", b, api.Machine{state(1)})
	mustBeAlike(t, "empty and nil lists", a, b)
	mustUse(t, "empty lists", a, true, false)
}
