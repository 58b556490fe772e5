package classes_test

import (
	"math"
	"slices"
	"testing"

	"homograph/api"
	"homograph/classes"
	"homograph/dfa"
	"homograph/drawn"
	"homograph/minim"
)

// P10.3

func mustBack(t *testing.T, name string, class [256]uint8, table [][]int, ends []uint64, want ...api.State) {
	t.Helper()
	if got := classes.Back(class, table, ends); !drawn.SameMachines(got, want) {
		t.Errorf("Back of %s = %v, want %v", name, got, want)
	}
}

func TestBack(t *testing.T) {
	class := classed(0, arc('a', 'c', 1), by('x', 2))
	mustBack(t, "[a-c]x", class, [][]int{{-1, 1, -1}, {-1, -1, 2}, {-1, -1, -1}}, []uint64{0, 0, 1}, state(0, arc('a', 'c', 1)), state(0, by('x', 2)), state(1))
	mustBack(t, "all that is possible", class, [][]int{{0, 0, 0}, {0, 1, 0}, {2, 1, 0}}, []uint64{1, 2, 1 << 63}, state(1, arc(0, 255, 0)), state(2, arc(0, '`', 0), arc('a', 'c', 1), arc('d', 255, 0)), state(1<<63, arc(0, '`', 2), arc('a', 'c', 1), arc('d', 'w', 2), by('x', 0), arc('y', 255, 2)))
	mustBack(t, "rows that lead nowhere", class, [][]int{{-1, -1, -1}, {-1, -1, -1}}, []uint64{3, 4}, state(3), state(4))
	mustBack(t, "byte 0", classed(1, by(0, 0)), [][]int{{0, -1}}, nil, state(0, by(0, 0)))
	mustBack(t, "byte 255", classed(0, by(255, 1)), [][]int{{-1, 0}}, nil, state(0, by(255, 0)))
	mustBack(t, "bytes 0 and 255", classed(0, by(0, 1), by(255, 1)), [][]int{{1, 0}, {0, -1}}, nil, state(0, by(0, 0), arc(1, 254, 1), by(255, 0)), state(0, arc(1, 254, 0)))
	// Classes that touch are one arc where they lead to the same.
	mustBack(t, "classes that touch", letters(), [][]int{{-1, 0, 0, 1, 0}, {1, 1, 1, 1, 1}}, nil, state(0, arc('a', 'b', 0), by('c', 1), by('d', 0)), state(0, arc(0, 255, 1)))
	mustBack(t, "a class in several parts", classed(0, by('a', 1), by('c', 1), arc('e', 'g', 1)), [][]int{{-1, 0}}, nil, state(0, by('a', 0), by('c', 0), arc('e', 'g', 0)))
}

func TestBackWithoutRows(t *testing.T) {
	for _, class := range [][256]uint8{{}, letters(), identity(), classed(255)} {
		for _, ends := range [][]uint64{nil, {}, {1}, {1, 2, math.MaxUint64}} {
			mustBack(t, "no rows", class, nil, ends)
			mustBack(t, "no rows, not nil", class, [][]int{}, ends)
		}
	}
}

func TestBackWithFewerAndMoreEnds(t *testing.T) {
	table := [][]int{{-1, 1}, {0, 2}, {-1, -1}}
	ends := []uint64{5, 1 << 63, math.MaxUint64, 9, 10}
	for count := range len(ends) + 1 {
		want := []api.State{state(0, by('a', 1)), state(0, arc(0, '`', 0), by('a', 2), arc('b', 255, 0)), state(0)}
		for i := range want {
			if i < count {
				want[i].Accept = ends[i]
			}
		}
		class := classed(0, by('a', 1))
		mustBack(t, "so many ends", class, table, ends[:count], want...)
		mustBack(t, "so many ends, without room", class, table, slices.Clone(ends[:count]), want...)
		mustBack(t, "ends of 0", class, table, make([]uint64, count), state(0, want[0].Arcs...), state(0, want[1].Arcs...), state(0, want[2].Arcs...))
	}
}

func TestBackOfRowsOfDifferentLengths(t *testing.T) {
	for _, none := range [][]int{nil, {}, make([]int, 0, 9)} {
		mustBack(t, "a row without elements", letters(), [][]int{none}, []uint64{7}, state(7))
		mustBack(t, "a row without elements among others", letters(), [][]int{{0, 1}, none, {-1, -1, -1, 2}}, []uint64{1, 2, 3}, state(1, arc(0, '`', 0), by('a', 1), arc('e', 255, 0)), state(2), state(3, by('c', 2)))
	}
	mustBack(t, "rows of one, of two and of five", letters(), [][]int{{2}, {0, 2}, {0, 1, 2, 1, 0}}, nil,
		state(0, arc(0, '`', 2), arc('e', 255, 2)), state(0, arc(0, '`', 0), by('a', 2), arc('e', 255, 0)), state(0, arc(0, '`', 0), by('a', 1), by('b', 2), by('c', 1), arc('d', 255, 0)))
	mustBack(t, "more elements than there are classes", classed(0, by('a', 1)), [][]int{{-1, 0, 0, 0, 0}, slices.Repeat([]int{1}, 300)}, nil, state(0, by('a', 0)), state(0, arc(0, 255, 1)))
	roomy := []int{0, 0, 0}
	mustBack(t, "room behind a row's end", letters(), [][]int{roomy[:2]}, nil, state(0, arc(0, 'a', 0), arc('e', 255, 0)))
	for count := range 258 {
		row := slices.Repeat([]int{0}, count)
		var first, last []api.Arc
		if count > 0 {
			first = []api.Arc{arc(0, uint8(min(count, 256)-1), 0)}
		}
		if count > 255 {
			last = []api.Arc{arc(0, 255, 0)}
		}
		mustBack(t, "so many elements, and a class for each byte", identity(), [][]int{row}, nil, state(0, first...))
		mustBack(t, "so many elements, and class 255 alone", classed(255), [][]int{row}, nil, state(0, last...))
	}
}

func TestBackOfElementsThatAreNoRows(t *testing.T) {
	for _, no := range []int{-1, -2, -4096, math.MinInt, 2, 3, 256, 4096, 1 << 32, 1<<32 + 1, math.MaxInt} {
		mustBack(t, "an element that is no row", letters(), [][]int{{0, no, 1, no, 0}, {no, no, no, no, 1}}, []uint64{1, 2}, state(1, arc(0, '`', 0), by('b', 1), arc('d', 255, 0)), state(2, by('d', 1)))
		mustBack(t, "only elements that are no rows", letters(), [][]int{{no, no, no}, {no}}, []uint64{1, 2}, state(1), state(2))
	}
	mustBack(t, "different elements that are no rows", letters(), [][]int{{-1, -2, 1, math.MaxInt, 7}}, nil, state(0))
	for count := 1; count < 6; count++ {
		table, want := make([][]int, count), make(api.Machine, count)
		for i := range table {
			table[i] = []int{count, count - 1, 0, i, i + 1}
			row := slices.Clone(table[i])
			row[0] = -1
			if i == count-1 {
				row[4] = -1
			}
			want[i].Arcs = drawn.ArcsOf(toOf(letters(), row))
		}
		mustBack(t, "the number of rows", letters(), table, nil, want...)
	}
}

// toOf is where each byte leads by its class.
func toOf(class [256]uint8, row []int) [256]int {
	var to [256]int
	for b, k := range class {
		to[b] = row[k]
	}
	return to
}

func TestBackOfClassesInAnyOrder(t *testing.T) {
	falling := identity()
	slices.Reverse(falling[:])
	row := make([]int, 256)
	for k := range row {
		row[k] = k / 128
	}
	mustBack(t, "falling classes", falling, [][]int{row, {}}, nil, state(0, arc(0, 127, 1), arc(128, 255, 0)), state(0))
	mustBack(t, "classes with gaps", classed(9, by('a', 3), by('b', 6)), [][]int{{0, 0, 0, 0, 0, 0, -1, 0, 0, 1}, {0, 0, 0, 1, 0, 0, 0}}, nil, state(0, arc(0, '`', 1), by('a', 0), arc('c', 255, 1)), state(0, by('a', 1), by('b', 0)))
	mustBack(t, "a falling order", classed(2, by('a', 1), by('z', 0)), [][]int{{0, 1, -1}, {1, 0, 1}}, nil, state(0, by('a', 1), by('z', 0)), state(0, arc(0, '`', 1), by('a', 0), arc('b', 255, 1)))
}

func TestBackOfDrawnTables(t *testing.T) {
	s := drawn.Source(206)
	arcs := 0
	for range 3000 {
		class, table := drawnClass(&s), drawnTable(&s)
		var ends []uint64
		for range s.Below(9) {
			ends = append(ends, []uint64{0, 1, 2, 1 << 63, math.MaxUint64}[s.Below(5)])
		}
		want := backOf(class, table, ends)
		mustBack(t, "a drawn table", class, table, ends, want...)
		if t.Failed() {
			return
		}
		if len(want) <= api.MaxStates && dfa.Check(want) != api.OK {
			t.Fatalf("%v isn't sound", want)
		}
		for _, state := range want {
			arcs += len(state.Arcs)
		}
	}
	if arcs < 10000 {
		t.Errorf("only %d arcs", arcs)
	}
}

// P10.4

func mustComeBack(t *testing.T, name string, m, want api.Machine) {
	t.Helper()
	class, _ := classes.Of(m)
	mustBack(t, name, class, classes.Table(m), endsOf(m), want...)
}

func TestMachinesComeBack(t *testing.T) {
	mustComeBack(t, "no states", nil, nil)
	mustComeBack(t, "a state", api.Machine{state(5)}, api.Machine{state(5)})
	for _, text := range []string{"[a-c]x", "if|[a-z]+", "(a|b)*abb", "~(.*ab.*)", "[^\\x00]*\\xff", "a{32}{32}", "[ab]*a[ab]{11}"} {
		m := drawn.MachineOf(text)
		mustComeBack(t, text, m, m)
	}
	for _, apart := range []int{1, 9, 100} {
		// Where a bit is the same in neighbours, they become one arc.
		m := bitStates(apart)
		want := drawn.CopyMachine(m)
		for i := range want {
			if len(want[i].Arcs) > 0 {
				var to [256]int
				for b := range to {
					to[b] = b >> (i / apart) & 1
				}
				want[i].Arcs = drawn.ArcsOf(to)
			}
		}
		mustComeBack(t, "256 classes", want, want)
		mustComeBack(t, "256 classes, of arcs by one byte each", m, want)
	}
	many := make(api.Machine, 5000)
	for i := range many {
		many[i] = state(uint64(i), arc('a', 'm', 4999-i), by('z', i))
	}
	mustComeBack(t, "more than MaxStates", many, many)
}

// What is wanted is what dfa.Arcs makes of where Next leads: of a sound machine that is its own arcs.
func TestDrawnMachinesComeBack(t *testing.T) {
	for _, m := range drawn.SoundMachines(800) {
		mustComeBack(t, "a sound machine", m, m)
		mustComeBack(t, "a least machine", minim.Least(m), minim.Least(m))
		if t.Failed() {
			t.Fatalf("wrong with %v", m)
		}
	}
	other := 0
	for _, m := range drawn.OddMachines(3000) {
		want := make(api.Machine, len(m))
		for i := range m {
			var to [256]int
			for b := range to {
				to[b] = dfa.Next(m, i, uint8(b))
				if to[b] >= len(m) {
					to[b] = -1
				}
			}
			want[i] = state(m[i].Accept, drawn.ArcsOf(to)...)
		}
		if !drawn.SameMachines(m, want) {
			other++
		}
		mustComeBack(t, "an odd machine", m, want)
		if t.Failed() {
			t.Fatalf("wrong with %v", m)
		}
	}
	if other < 1000 {
		t.Errorf("only %d machines change", other)
	}
}

// With two classes made one, no element of a row fits both, so that no table leads back to the machine.
func TestNumberOfClassesIsLeast(t *testing.T) {
	for _, m := range append(drawn.SoundMachines(150), bitStates(1), drawn.MachineOf("[a-c]x")) {
		class, count := classes.Of(m)
		table := classes.Table(m)
		if count < 1 || count > 256 {
			t.Fatalf("%d classes of %v", count, m)
		}
		for k := range count {
			for j := range k {
				if !slices.ContainsFunc(table, func(row []int) bool { return row[j] != row[k] }) {
					t.Fatalf("classes %d and %d of %v lead to the same", j, k, m)
				}
			}
		}
		if count > 40 {
			continue
		}
		back := classes.Back(class, table, endsOf(m))
		for k := range count {
			for j := range k {
				joined := class
				for b := range joined {
					if joined[b] == uint8(k) {
						joined[b] = uint8(j)
					}
				}
				if drawn.SameMachines(classes.Back(joined, table, endsOf(m)), back) {
					t.Fatalf("%v doesn't need both class %d and class %d", m, j, k)
				}
			}
		}
	}
}
