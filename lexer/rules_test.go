package lexer_test

import (
	"slices"
	"testing"

	"homograph/api"
	"homograph/drawn"
	"homograph/lexer"
	"homograph/regex"
)

// Rule 3: arguments are neither modified nor retained, and results are in new memory.

// roomyList is a list in new memory with room behind its end, where a pattern stands, too.
func roomyList(l []api.Node) []api.Node {
	var out []api.Node
	for _, n := range l {
		out = append(out, drawn.Roomy(n))
	}
	return append(out, regex.Lit("room"))[:len(l)]
}

func sameList(a, b []api.Node) bool {
	return slices.EqualFunc(a[:len(a)+1], b[:len(b)+1], drawn.Whole)
}

func TestBuildDoesNotModifyPatterns(t *testing.T) {
	invalid := append(parse(t, "a", "b"), regex.Rep(regex.Lit("a"), 3, 2))
	for _, l := range append(lists(t, 500), invalid, slices.Repeat(invalid[:2], 16), slices.Repeat(invalid[:2], 17)) {
		for _, limit := range []int{0, 1, 3, 300} {
			arg, before := roomyList(l), roomyList(l)
			got, e := lexer.Build(arg, limit)
			if !sameList(arg, before) {
				t.Fatalf("Build modified %q", shown(l))
			}
			want := drawn.CopyMachine(got)
			for i := range arg {
				drawn.Spoil(arg[i])
				arg[i] = regex.Lit("spoilt")
			}
			if again, f := lexer.Build(l, limit); !drawn.SameMachines(got, want) || !drawn.SameMachines(again, want) || e != f {
				t.Fatalf("Build(%q) changed with its argument", shown(l))
			}
		}
	}
}

func TestMachinesAreNotModified(t *testing.T) {
	s := drawn.Source(106)
	for i := range 1500 {
		m := oddOrSound(&s, i)
		arg, want := drawn.RoomyMachine(m), drawn.CopyMachine(drawn.WholeRoom(drawn.RoomyMachine(m)))
		text, mask := s.Bytes(9), uint64(s.Below(8))
		edges, longest, only := lexer.Ends(arg, text, 0), lexer.Longest(arg, text, 0, 1), lexer.Only(arg, mask)
		if !drawn.SameMachines(drawn.WholeRoom(arg), want) {
			t.Fatalf("a call modified %v", m)
		}
		wantEdges, wantOnly := slices.Clone(edges), drawn.CopyMachine(only)
		drawn.SpoilMachine(arg)
		if !slices.Equal(edges, wantEdges) || !drawn.SameMachines(only, wantOnly) {
			t.Fatalf("a result changed with its argument %v", m)
		}
		// Another machine in the same memory must be walked as what it is.
		for j := range arg {
			arg[j] = state(2)
		}
		if len(arg) > 0 {
			mustEnd(t, arg, text, 0, ends(0, [2]int{1, 0}))
			mustKeep(t, "another machine", arg, 2, api.Machine{state(2)})
		}
		if again := lexer.Ends(m, text, 0); !slices.Equal(again, wantEdges) || lexer.Longest(m, text, 0, 1) != longest {
			t.Fatalf("Ends or Longest of %v changed", m)
		}
		mustKeep(t, "the same machine again", m, mask, wantOnly)
	}
}

// mustBeApart holds that no list of a machine shares memory with another one of it.
func mustBeApart(t *testing.T, m api.Machine) {
	t.Helper()
	want := drawn.CopyMachine(m)
	if drawn.SharesLists(m) {
		t.Fatalf("states of %v share memory", want)
	}
}

func TestListsOfMachinesAreApart(t *testing.T) {
	_, machines := builtLists(t, 400, 300)
	for _, m := range append(machines, built(t, parse(t, "[ab]*a[ab]{4}", "[ab]*b[ab]{3}", "a")...), built(t, parse(t, "a{9}", "a*")...)) {
		arg := drawn.RoomyMachine(m)
		whole := drawn.CopyMachine(drawn.WholeRoom(arg))
		for _, mask := range []uint64{1, 2, 1<<64 - 1} {
			mustBeApart(t, lexer.Only(arg, mask))
			drawn.SpoilMachine(lexer.Only(arg, mask))
		}
		if !drawn.SameMachines(drawn.WholeRoom(arg), whole) {
			t.Fatalf("Only shares memory with its argument %v", m)
		}
		mustBeApart(t, m)
	}
}

// Rule 4: what a call tells doesn't hang on earlier calls, nor on what a caller does with what they told.
func TestNothingIsKeptFromCallToCall(t *testing.T) {
	l, machines := builtLists(t, 300, 300)
	for i, m := range machines {
		want := drawn.CopyMachine(m)
		edges, only := lexer.Ends(m, "aabcab", 0), lexer.Only(m, 5)
		wantEdges, wantOnly := slices.Clone(edges), drawn.CopyMachine(only)
		for j := range edges {
			edges[:cap(edges)][j] = api.Edge{Token: 7, From: 7, To: 7}
		}
		drawn.SpoilMachine(only)
		if !slices.Equal(lexer.Ends(m, "aabcab", 0), wantEdges) || !drawn.SameMachines(lexer.Only(m, 5), wantOnly) || !drawn.SameMachines(m, want) {
			t.Fatalf("Ends or Only of %v changed with an earlier result", m)
		}
		drawn.SpoilMachine(m)
		for range 2 {
			if again := built(t, l[i]...); !drawn.SameMachines(again, want) {
				t.Fatalf("Build(%q) changed with an earlier result", shown(l[i]))
			}
		}
	}
}

// Where lists have no elements, it makes no difference whether they are nil.
func TestNilAndEmptyLists(t *testing.T) {
	for _, l := range [][]api.Node{nil, {}, make([]api.Node, 0, 40)} {
		mustBuild(t, l, 0, nil)
	}
	mustBuild(t, []api.Node{{Op: api.OpCat, Kids: []api.Node{}}, {Op: api.OpAlt, Kids: []api.Node{}}}, 1, api.Machine{state(1)})
	m := api.Machine{{Accept: 3, Arcs: []api.Arc{}}, {Accept: 1}}
	mustKeep(t, "empty lists", m, 2, api.Machine{state(2)})
	mustEnd(t, m, "a", 1, ends(1, [2]int{0, 1}, [2]int{1, 1}))
}
