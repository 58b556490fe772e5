package classes_test

import (
	"math"
	"slices"
	"strings"
	"testing"

	"homograph/api"
	"homograph/classes"
	"homograph/dfa"
	"homograph/drawn"
)

// P10.2: Table

func mustTable(t *testing.T, name string, m api.Machine, want ...[]int) {
	t.Helper()
	if got := classes.Table(m); !sameTables(got, want) {
		t.Errorf("Table of %s = %v, want %v", name, got, want)
	}
}

func TestTable(t *testing.T) {
	mustTable(t, "no states", nil)
	mustTable(t, "no states, not nil", api.Machine{})
	mustTable(t, "a state without arcs", api.Machine{state(1)}, []int{-1})
	mustTable(t, "states without arcs", make(api.Machine, 3), []int{-1}, []int{-1}, []int{-1})
	mustTable(t, "all bytes", api.Machine{state(0, arc(0, 255, 1)), state(1, arc(0, 255, 0))}, []int{1}, []int{0})
	mustTable(t, "[a-c]x", drawn.MachineOf("[a-c]x"), []int{-1, 1, -1}, []int{-1, -1, 2}, []int{-1, -1, -1})
	mustTable(t, "a*", drawn.MachineOf("a*"), []int{-1, 0})
	mustTable(t, "~a", drawn.MachineOf("~a"), []int{1, 2}, []int{1, 1}, []int{1, 1})
	// From a class's least byte an arc may lead or not, in any state.
	mustTable(t, "byte 0", drawn.MachineOf("\\x00"), []int{1, -1}, []int{-1, -1})
	mustTable(t, "byte 255", drawn.MachineOf("\\xff"), []int{-1, 1}, []int{-1, -1})
	mustTable(t, "bytes 0 and 255", drawn.MachineOf("\\x00\\xff"), []int{1, -1, -1}, []int{-1, -1, 2}, []int{-1, -1, -1})
	mustTable(t, "all but byte 0", drawn.MachineOf("[^\\x00]"), []int{-1, 1}, []int{-1, -1})
	mustTable(t, "a class that leads nowhere but at the end", api.Machine{state(0, by('a', 1)), state(0, by('a', 2)), state(1, arc(0, '`', 0), by('a', 1), arc('b', 255, 0))}, []int{-1, 1}, []int{-1, 2}, []int{0, 1})
	mustTable(t, "falling targets", api.Machine{state(0, by('a', 2), by('b', 1), by('c', 0)), state(0), state(0)}, []int{-1, 2, 1, 0}, []int{-1, -1, -1, -1}, []int{-1, -1, -1, -1})
	mustTable(t, "a state that isn't reached", api.Machine{state(0), state(0, by('b', 1))}, []int{-1, -1}, []int{-1, 1})
}

// Of machines that dfa.Check rejects, an element is what Next tells, whatever it is.
func TestTableOfMachinesThatMayNotBe(t *testing.T) {
	mustTable(t, "arcs that overlap", api.Machine{state(0, arc('a', 'c', 1), arc('b', 'd', 0))}, []int{-1, 1, 0})
	mustTable(t, "arcs to no state", api.Machine{state(0, by('a', 1), by('b', 99), by('c', math.MaxInt), by('d', math.MinInt), by('e', -2), by('f', -1))}, []int{-1, 1, 99, math.MaxInt, math.MinInt, -2})
	mustTable(t, "an arc that is turned round", api.Machine{state(0, arc('b', 'a', 0))}, []int{-1})
	mustTable(t, "another order", api.Machine{state(0, by('b', 0), by('a', 1)), state(0, arc('a', 'b', 1))}, []int{-1, 1, 0}, []int{-1, 1, 1})
	mustTable(t, "an arc to -1 ahead of another one", api.Machine{state(0, arc(0, 'a', -1), arc(0, 255, 3))}, []int{-1, 3})
}

func TestLargeTables(t *testing.T) {
	m := bitStates(1)
	var want [][]int
	for k := range 8 {
		var row []int
		for b := range 256 {
			row = append(row, b>>k&1)
		}
		want = append(want, row)
	}
	mustTable(t, "eight states that tell a bit each", m, want...)
	for _, count := range []int{63, 64, 65, 4096, 5000} {
		ring := make(api.Machine, count)
		var rows [][]int
		for i := range ring {
			ring[i].Arcs = []api.Arc{by('a', (i+1)%count)}
			rows = append(rows, []int{-1, (i + 1) % count})
		}
		mustTable(t, "a ring", ring, rows...)
	}
}

func TestTablesOfDrawnMachines(t *testing.T) {
	for _, m := range append(drawn.SoundMachines(400), drawn.OddMachines(2000)...) {
		mustTable(t, "a drawn machine", m, tableOf(m)...)
		if t.Failed() {
			t.Fatalf("wrong with %v", m)
		}
	}
}

// An element is what Next tells for each byte of its class.
func TestElementsAreTargetsOfAllBytes(t *testing.T) {
	for _, m := range append(drawn.SoundMachines(200), drawn.OddMachines(1000)...) {
		class, count := classes.Of(m)
		table := classes.Table(m)
		if len(table) != len(m) {
			t.Fatalf("%d rows of %d states", len(table), len(m))
		}
		for state, row := range table {
			if len(row) != count {
				t.Fatalf("%d elements of %d classes", len(row), count)
			}
			for b, k := range class {
				if want := dfa.Next(m, state, uint8(b)); row[k] != want {
					t.Fatalf("from state %d by byte %d of %v: %d, want %d", state, b, m, row[k], want)
				}
			}
		}
	}
}

// P10.2: Run

func mustRun(t *testing.T, class [256]uint8, table [][]int, s string, want int) {
	t.Helper()
	if got := classes.Run(class, table, s); got != want {
		t.Errorf("Run(%v, %v, %q) = %d, want %d", class, table, s, got, want)
	}
}

// letters are classes of a caller: a is 1, b is 2, c is 3, d is 4, all else is 0.
func letters() [256]uint8 { return classed(0, by('a', 1), by('b', 2), by('c', 3), by('d', 4)) }

func TestRun(t *testing.T) {
	table := [][]int{{-1, 1, -1}, {-1, -1, 2}, {0, 1, 2}}
	for s, want := range map[string]int{"": 0, "a": 1, "ab": 2, "abb": 2, "abbb": 2, "abx": 0, "abxa": 1, "aba": 1, "abab": 2, "abz\x00": -1, "ab\x00": 0, "ab\xff": 0, "b": -1, "x": -1, "aa": -1, "ax": -1, "aab": -1, "ba": -1, "xab": -1, "axb": -1} {
		mustRun(t, letters(), table, s, want)
	}
	// A text is bytes, not runes.
	table = [][]int{{-1, 1, -1}, {-1, -1, 2}, {-1, -1, -1}}
	class := classed(0, by(0xc3, 1), by(0xa9, 2))
	mustRun(t, class, table, "\u00e9", 2)
	mustRun(t, class, table, "\xc3", 1)
	mustRun(t, class, table, "\xe9", -1)
	mustRun(t, classed(0, by(0, 1), by(255, 2)), table, "\x00\xff", 2)
	mustRun(t, classed(0, by(0, 1), by(255, 2)), table, "\xff\x00", -1)
}

func TestRunOverTheEmptyText(t *testing.T) {
	for _, table := range [][][]int{{{}}, {nil}, {{-1}}, {{5}}, {{1}, {0}}, {{math.MinInt}}, {{}, {}, {}}} {
		for _, class := range [][256]uint8{{}, classed(255), identity()} {
			mustRun(t, class, table, "", 0)
		}
	}
}

func TestRunWithoutRows(t *testing.T) {
	for _, s := range []string{"", "a", "abc", "\x00", "\xff", strings.Repeat("a", api.MaxText)} {
		for _, class := range [][256]uint8{{}, letters(), identity(), classed(255)} {
			mustRun(t, class, nil, s, -1)
			mustRun(t, class, [][]int{}, s, -1)
			mustRun(t, class, make([][]int, 0, 3), s, -1)
		}
	}
}

// A row may have any number of elements; there is no element where it ends.
func TestRunWhereThereIsNoElement(t *testing.T) {
	table := [][]int{{0, 1, 2, 3}, {0, 1}, {}, nil}
	for s, want := range map[string]int{"x": 0, "a": 1, "b": 2, "c": 3, "d": -1, "ax": 0, "aa": 1, "ab": -1, "ac": -1, "ad": -1, "bx": -1, "ba": -1, "bd": -1, "cx": -1, "ca": -1, "axb": 2, "axd": -1, "aba": -1, "dx": -1, "da": -1} {
		mustRun(t, letters(), table, s, want)
	}
	for b := range 256 {
		text := string([]byte{byte(b)})
		mustRun(t, identity(), [][]int{slices.Repeat([]int{1}, b), {}}, text, -1)
		mustRun(t, identity(), [][]int{slices.Repeat([]int{1}, b+1), {}}, text, 1)
		mustRun(t, classed(255), [][]int{slices.Repeat([]int{1}, b), {}}, text, -1)
		mustRun(t, classed(255), [][]int{slices.Repeat([]int{1}, 256+b), {}}, text, 1)
	}
	// Room behind a row's end is no element.
	roomy := []int{7, 7, 7}
	mustRun(t, letters(), [][]int{roomy[:1]}, "a", -1)
	mustRun(t, letters(), [][]int{roomy[:2]}, "a", 7)
}

// An element below 0 is told as -1, whatever it is.
func TestRunToElementsBelow0(t *testing.T) {
	table := [][]int{{-1, -2, math.MinInt, 1}, {-2, 0, -4097, -1}}
	for s, want := range map[string]int{"x": -1, "a": -1, "b": -1, "c": 1, "ca": 0, "cx": -1, "cb": -1, "cc": -1, "cac": 1, "xc": -1, "ac": -1, "bc": -1, "cxa": -1, "cba": -1, "cca": -1, "aca": -1, "bb": -1} {
		mustRun(t, letters(), table, s, want)
	}
}

// The last element is told even if it is no row's number, but from there nothing leads on.
func TestRunToWhatIsNoRow(t *testing.T) {
	table := [][]int{{2, 3, 4096, 1, math.MaxInt}, {0, 1, 1 << 32, 1<<32 + 1, 256}}
	for s, want := range map[string]int{
		"x": 2, "a": 3, "b": 4096, "c": 1, "d": math.MaxInt, "cx": 0, "ca": 1, "cb": 1 << 32, "cc": 1<<32 + 1, "cd": 256, "cxx": 2, "cxd": math.MaxInt,
		"xx": -1, "xc": -1, "aa": -1, "ac": -1, "bb": -1, "bx": -1, "dd": -1, "dx": -1, "cbx": -1, "ccx": -1, "cca": -1, "cda": -1, "cdc": -1, "xcc": -1, "cxxc": -1,
	} {
		mustRun(t, letters(), table, s, want)
	}
	mustRun(t, letters(), [][]int{{1}}, "x", 1)
	mustRun(t, letters(), [][]int{{1}}, "xx", -1)
	// Room behind a table's end is no row.
	roomy := [][]int{{1, 1}, {0, 0}}
	mustRun(t, letters(), roomy[:1], "aa", -1)
	mustRun(t, letters(), roomy, "aa", 0)
}

func TestRunOfDrawnTables(t *testing.T) {
	s := drawn.Source(204)
	rows, beyond, nowhere := 0, 0, 0
	for range 4000 {
		class, table := drawnClass(&s), drawnTable(&s)
		for range 15 {
			text := s.Bytes(7)
			want := runOf(class, table, text)
			mustRun(t, class, table, text, want)
			switch {
			case text == "":
			case want < 0:
				nowhere++
			case want < len(table):
				rows++
			default:
				beyond++
			}
		}
		if t.Failed() {
			return
		}
	}
	if rows < 2000 || beyond < 2000 || nowhere < 2000 {
		t.Errorf("%d texts lead to rows, %d to what is no row, %d nowhere", rows, beyond, nowhere)
	}
}

// Of a machine's classes and table, Run is dfa.Run, but for numbers below 0, which are told as -1.
func TestRunIsRunOfTheMachine(t *testing.T) {
	s := drawn.Source(205)
	long, beyond, below := 0, 0, 0
	for _, m := range append(drawn.SoundMachines(500), drawn.OddMachines(3000)...) {
		class, _ := classes.Of(m)
		table := classes.Table(m)
		texts := append(drawn.Texts("ab\xff", 2), s.Text(9), string([]byte{byte(s.Below(256)), byte(s.Below(256))}))
		for range 10 {
			texts = append(texts, s.Bytes(9))
		}
		for _, text := range texts {
			want := dfa.Run(m, text)
			if want < -1 {
				below++
			}
			if want >= len(m) {
				beyond++
			}
			mustRun(t, class, table, text, max(want, -1))
			if len(text) > 3 && want >= 0 {
				long++
			}
		}
		if t.Failed() {
			t.Fatalf("wrong with %v", m)
		}
	}
	if long < 600 || beyond < 500 || below < 100 {
		t.Errorf("%d texts were gone through, %d led to no state, %d below -1", long, beyond, below)
	}
}

func TestLongTexts(t *testing.T) {
	as, abs := strings.Repeat("a", api.MaxText), strings.Repeat("ab", 1<<20)
	for _, c := range []struct {
		pattern, text string
		want          bool
	}{
		{"a*", as, true}, {"a*", as + "b", false}, {"a*", "b" + as, false}, {"(ab)*", abs, true}, {"(ab)*", abs + "a", false}, {"(a|b)*abb", abs, false}, {"(a|b)*abb", abs + "b", true}, {"[ab]*a[ab]{8}", abs, false}, {"[ab]*a[ab]{8}", abs + "a", true}, {"(aa)*", as, true}, {"(aa)*", as[1:], false}, {"[^]*", abs, true}, {"a{32}{32}", as, false}, {"a{32}{32}", as[:1024], true},
	} {
		m := drawn.MachineOf(c.pattern)
		class, _ := classes.Of(m)
		at := classes.Run(class, classes.Table(m), c.text)
		if got := at >= 0 && m[at].Accept != 0; got != c.want || at != dfa.Run(m, c.text) {
			t.Errorf("Run of %s and %d bytes = %d", c.pattern, len(c.text), at)
		}
	}
	ring := make([][]int, 997)
	for i := range ring {
		ring[i] = []int{(i + 1) % len(ring)}
	}
	if got := classes.Run([256]uint8{}, ring, abs); got != len(abs)%997 {
		t.Errorf("Run of a ring = %d", got)
	}
}
