package classes_test

import (
	"slices"
	"testing"

	"homograph/api"
	"homograph/classes"
	"homograph/drawn"
)

// Rule 3: arguments are neither modified nor retained, and results are in new memory.

// roomyTable is a table in new memory, whose lists all have more room than they use, with rows and elements beyond their ends.
func roomyTable(table [][]int) [][]int {
	var out [][]int
	for _, row := range append(slices.Clone(table), []int{0, 0, 1}) {
		out = append(out, append(slices.Clone(row), 0, 1, 2)[:len(row)])
	}
	return out[:len(table)]
}

// wholeTable is all that a roomy table has, also beyond the ends of its lists.
func wholeTable(table [][]int) [][]int {
	var all [][]int
	for _, row := range table[:len(table)+1] {
		all = append(all, slices.Clone(row[:len(row)+3]))
	}
	return all
}

// spoilTable overwrites the whole room of a table's lists.
func spoilTable(table [][]int) {
	for _, row := range table {
		row = row[:cap(row)]
		for i := range row {
			row[i] = 0
		}
	}
	table = table[:cap(table)]
	for i := range table {
		table[i] = []int{0, 0, 0, 0}
	}
}

func TestMachinesAreNotModified(t *testing.T) {
	for _, m := range append(drawn.SoundMachines(200), drawn.OddMachines(600)...) {
		arg, want := drawn.RoomyMachine(m), drawn.CopyMachine(drawn.WholeRoom(drawn.RoomyMachine(m)))
		class, count := classes.Of(arg)
		table := classes.Table(arg)
		if !drawn.SameMachines(drawn.WholeRoom(arg), want) {
			t.Fatalf("a call modified %v", m)
		}
		wantTable := copyTable(table)
		// Another machine in the same memory must be told as what it is.
		for i := range arg {
			arg[i] = state(1, arc('a', 'c', i))
		}
		if !sameTables(table, wantTable) {
			t.Fatalf("Table of %v changed with its argument", m)
		}
		if len(arg) > 0 {
			mustClass(t, "another machine", arg, classed(0, arc('a', 'c', 1)))
			if row := classes.Table(arg)[len(arg)-1]; !slices.Equal(row, []int{-1, len(arg) - 1}) {
				t.Fatalf("a row of another machine: %v", row)
			}
		}
		mustClass(t, "the same machine again", m, class)
		mustTable(t, "the same machine again", m, wantTable...)
		if _, again := classes.Of(m); again != count {
			t.Fatalf("%d classes, then %d", count, again)
		}
	}
}

func TestTablesAndEndsAreNotModified(t *testing.T) {
	s := drawn.Source(207)
	for range 1500 {
		class, table, text := drawnClass(&s), drawnTable(&s), s.Bytes(6)
		ends := []uint64{1, 2, 3, 4, 5}[:s.Below(5)]
		arg, whole := roomyTable(table), wholeTable(roomyTable(table))
		want, back := classes.Run(class, arg, text), classes.Back(class, arg, ends)
		if !sameTables(wholeTable(arg), whole) || !slices.Equal(ends[:cap(ends)], []uint64{1, 2, 3, 4, 5}) {
			t.Fatalf("a call modified %v", table)
		}
		wantBack := drawn.CopyMachine(back)
		spoilTable(arg)
		clear(ends)
		if !drawn.SameMachines(back, wantBack) {
			t.Fatalf("Back of %v changed with its arguments", table)
		}
		mustRun(t, class, arg, text, runOf(class, arg, text))
		mustBack(t, "another table", class, arg, ends, backOf(class, arg, ends)...)
		mustRun(t, class, table, text, want)
		mustBack(t, "the same table again", class, table, endsOf(wantBack), wantBack...)
	}
}

func TestListsOfMachinesAreApart(t *testing.T) {
	s := drawn.Source(208)
	for range 600 {
		class, table := drawnClass(&s), drawnTable(&s)
		// Equal rows are the likeliest to share.
		for i := range table {
			if s.Below(2) == 0 {
				table[i] = table[0]
			}
		}
		arg := roomyTable(table)
		whole := wholeTable(arg)
		m := classes.Back(class, arg, []uint64{1})
		want := drawn.CopyMachine(m)
		if drawn.SharesLists(m) {
			t.Fatalf("states of %v share memory", want)
		}
		drawn.SpoilMachine(m)
		if !sameTables(wholeTable(arg), whole) {
			t.Fatalf("Back shares memory with its argument %v", table)
		}
		mustBack(t, "the same table again", class, table, []uint64{1}, want...)
	}
}

func TestRowsAreApart(t *testing.T) {
	for _, m := range append(append(drawn.SoundMachines(200), drawn.OddMachines(600)...), make(api.Machine, 100), bitStates(2)) {
		arg := drawn.RoomyMachine(m)
		whole := drawn.CopyMachine(drawn.WholeRoom(arg))
		table := classes.Table(arg)
		want := copyTable(table)
		for i, row := range table {
			row = row[:cap(row)]
			for k := range row {
				row[k] = 777
			}
			table[i] = nil
			if i < 200 && !sameTables(table[i+1:], want[i+1:]) {
				t.Fatalf("rows of %v share memory", want)
			}
		}
		spoilTable(table)
		if !drawn.SameMachines(drawn.WholeRoom(arg), whole) {
			t.Fatalf("Table shares memory with its argument %v", m)
		}
		mustTable(t, "the same machine again", m, want...)
	}
}

// Rule 4: what a call tells doesn't hang on earlier calls, nor on what a caller does with what they told.
func TestNothingIsKeptFromCallToCall(t *testing.T) {
	s := drawn.Source(209)
	for range 300 {
		class := drawnClass(&s)
		lows, other := classes.Lows(class), classes.Lows(class)
		lows = lows[:cap(lows)]
		for i := range lows {
			lows[i] = 77
		}
		if !slices.Equal(other, lowsOf(class)) {
			t.Fatal("two lists of Lows share memory")
		}
		mustHaveLows(t, "the same classes again", class, other...)
		lows = append(other, 5)
		mustHaveLows(t, "the same classes once more", class, lows[:len(lows)-1]...)
	}
	m := drawn.MachineOf("[a-c]x")
	first, second := classes.Table(m), classes.Table(m)
	spoilTable(first)
	if !sameTables(second, tableOf(m)) {
		t.Error("two tables share memory")
	}
}

// Where lists have no elements, it makes no difference whether they are nil.
func TestNilAndEmptyLists(t *testing.T) {
	empty := api.Machine{{Accept: 3, Arcs: []api.Arc{}}, {Arcs: []api.Arc{by('a', 1)}}, {Accept: 1}}
	mustClass(t, "empty lists", empty, classed(0, by('a', 1)))
	mustTable(t, "empty lists", empty, []int{-1, -1}, []int{-1, 1}, []int{-1, -1})
	mustComeBack(t, "empty lists", empty, empty)
	mustBack(t, "empty rows", identity(), [][]int{{}, nil, make([]int, 0, 4)}, []uint64{}, state(0), state(0), state(0))
}
