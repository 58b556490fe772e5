package regex_test

import (
	"math"
	"slices"
	"testing"

	"homograph/api"
	"homograph/byteset"
	"homograph/regex"
)

var (
	anyByte = api.Set{math.MaxUint64, math.MaxUint64, math.MaxUint64, math.MaxUint64}
	setA    = byteset.Of("a")
	setB    = byteset.Of("b")
)

// allOps are the six kinds.
var allOps = []int{api.OpSet, api.OpCat, api.OpAlt, api.OpRep, api.OpAnd, api.OpNot}

// set and list make nodes without the calls that are tested.
func set(s string) api.Node { return api.Node{Op: api.OpSet, Set: byteset.Of(s)} }

func list(op int, kids ...api.Node) api.Node { return api.Node{Op: op, Kids: kids} }

func rep(n api.Node, least, most int) api.Node {
	return api.Node{Op: api.OpRep, Min: least, Max: most, Kids: []api.Node{n}}
}

// fitting is a valid node of a kind, of depth 1 where the kind allows it and of depth 2 otherwise.
func fitting(op int) api.Node {
	n := api.Node{Op: op}
	if op == api.OpRep || op == api.OpNot {
		n.Kids = []api.Node{set("a")}
	}
	return n
}

// chain is n below so many nodes of a kind, with one Kid each.
func chain(n api.Node, op, levels int) api.Node {
	for range levels {
		n = list(op, n)
	}
	return n
}

// equal holds two patterns against each other without Same.
func equal(a, b api.Node) bool {
	if a.Op != b.Op || a.Set != b.Set || a.Min != b.Min || a.Max != b.Max || len(a.Kids) != len(b.Kids) {
		return false
	}
	for i := range a.Kids {
		if !equal(a.Kids[i], b.Kids[i]) {
			return false
		}
	}
	return true
}

// deep is a pattern in memory of its own, with all that its lists have beyond their ends.
func deep(n api.Node) api.Node {
	if n.Kids == nil {
		return n
	}
	// Made, not cloned: a clone may have more room than what it is a clone of.
	whole := make([]api.Node, cap(n.Kids))
	for i, kid := range n.Kids[:cap(n.Kids)] {
		whole[i] = deep(kid)
	}
	n.Kids = whole[:len(n.Kids)]
	return n
}

// untouched holds two patterns against each other with all that their lists have beyond their ends.
func untouched(a, b api.Node) bool {
	if a.Op != b.Op || a.Set != b.Set || a.Min != b.Min || a.Max != b.Max || len(a.Kids) != len(b.Kids) {
		return false
	}
	return slices.EqualFunc(a.Kids[:cap(a.Kids)], b.Kids[:cap(b.Kids)], untouched)
}

// spoil overwrites all of a pattern's lists, with what they have beyond their ends.
func spoil(l []api.Node) {
	l = l[:cap(l)]
	for i := range l {
		spoil(l[i].Kids)
		l[i] = api.Node{Op: 77, Set: anyByte, Min: -7, Max: 77}
	}
}

// source makes numbers that are the same in each run.
type source uint64

func (s *source) below(n int) int {
	*s = *s*6364136223846793005 + 1442695040888963407
	return int(uint64(*s) >> 33 % uint64(n))
}

// pattern makes a valid pattern of at most so many levels.
func (s *source) pattern(levels int) api.Node {
	op := allOps[s.below(len(allOps))]
	if levels == 1 && (op == api.OpRep || op == api.OpNot) {
		op = api.OpSet
	}
	switch op {
	case api.OpSet:
		return set([]string{"", "a", "b", "ab", "c"}[s.below(5)])
	case api.OpNot:
		return list(op, s.pattern(levels-1))
	case api.OpRep:
		least := s.below(3)
		return rep(s.pattern(levels-1), least, []int{-1, least, least + 1, least + 2}[s.below(4)])
	}
	n := list(op)
	if levels > 1 {
		for range s.below(4) {
			n.Kids = append(n.Kids, s.pattern(levels-1))
		}
	}
	return n
}

// patterns are valid patterns of all shapes.
func patterns() []api.Node {
	l := []api.Node{
		set(""), set("a"), {Op: api.OpSet, Set: anyByte},
		list(api.OpCat), list(api.OpAlt), list(api.OpAnd),
		list(api.OpCat, set("a"), set("b")), list(api.OpAlt, set("a"), set("b")), list(api.OpAnd, set("a"), set("b")),
		list(api.OpNot, set("a")), list(api.OpNot, list(api.OpNot, set("a"))),
		rep(set("a"), 0, -1), rep(set("a"), 1, -1), rep(set("a"), 0, 0), rep(set("a"), 2, 3), rep(list(api.OpCat), 32, 32),
	}
	s := source(1)
	for range 400 {
		l = append(l, s.pattern(1+s.below(4)))
	}
	return l
}

// matches tells by the words of the chapter whether a pattern matches a text, trying all divisions.
func matches(n api.Node, s string) bool {
	switch n.Op {
	case api.OpSet:
		return len(s) == 1 && byteset.Has(n.Set, s[0])
	case api.OpCat:
		return matchesRow(n.Kids, s)
	case api.OpAlt:
		for _, kid := range n.Kids {
			if matches(kid, s) {
				return true
			}
		}
		return false
	case api.OpRep:
		most := n.Max
		if most < 0 {
			// More pieces than this are of no use: each beyond Min would be empty or take a byte.
			most = n.Min + len(s)
		}
		for times := n.Min; times <= most; times++ {
			if matchesRow(slices.Repeat(n.Kids, times), s) {
				return true
			}
		}
		return false
	case api.OpAnd:
		for _, kid := range n.Kids {
			if !matches(kid, s) {
				return false
			}
		}
		return true
	}
	return !matches(n.Kids[0], s)
}

func matchesRow(l []api.Node, s string) bool {
	if len(l) == 0 {
		return s == ""
	}
	for i := 0; i <= len(s); i++ {
		if matches(l[0], s[:i]) && matchesRow(l[1:], s[i:]) {
			return true
		}
	}
	return false
}

// P2.1

func TestSetIsANodeWithThatSet(t *testing.T) {
	for _, s := range []api.Set{{}, setA, anyByte, {1, 2, 3, 4}} {
		if got, want := regex.Set(s), (api.Node{Op: api.OpSet, Set: s}); !equal(got, want) {
			t.Errorf("Set(%x) = %v", s, got)
		}
	}
}

func TestCatAltAndAndHaveTheirKids(t *testing.T) {
	for _, c := range []struct {
		name string
		op   int
		make func(...api.Node) api.Node
	}{
		{"Cat", api.OpCat, regex.Cat},
		{"Alt", api.OpAlt, regex.Alt},
		{"And", api.OpAnd, regex.And},
	} {
		if got := c.make(); !equal(got, api.Node{Op: c.op}) {
			t.Errorf("%s() = %v", c.name, got)
		}
		if got := c.make([]api.Node{}...); !equal(got, api.Node{Op: c.op}) {
			t.Errorf("%s of an empty list = %v", c.name, got)
		}
		l := patterns()
		for n := 1; n <= len(l); n += 1 + n/2 {
			if got := c.make(l[:n]...); !equal(got, api.Node{Op: c.op, Kids: l[:n]}) {
				t.Errorf("%s of %d patterns = %v", c.name, n, got)
			}
		}
		// A Kid of the same kind stays a Kid, and a single Kid doesn't stand for itself.
		if got, want := c.make(c.make(set("a"))), list(c.op, list(c.op, set("a"))); !equal(got, want) {
			t.Errorf("%s of a %s = %v", c.name, c.name, got)
		}
	}
}

func TestNotAndRepHaveTheirKid(t *testing.T) {
	for _, n := range patterns() {
		if got, want := regex.Not(n), list(api.OpNot, n); !equal(got, want) {
			t.Errorf("Not(%v) = %v", n, got)
		}
		if got, want := regex.Rep(n, 1, 2), rep(n, 1, 2); !equal(got, want) {
			t.Errorf("Rep(%v, 1, 2) = %v", n, got)
		}
	}
	for _, c := range [][2]int{{0, -1}, {0, 0}, {32, 32}, {3, 2}, {-5, 99}, {math.MinInt, math.MaxInt}, {math.MaxInt, math.MinInt}} {
		if got, want := regex.Rep(set("a"), c[0], c[1]), rep(set("a"), c[0], c[1]); !equal(got, want) {
			t.Errorf("Rep(a, %d, %d) = %v", c[0], c[1], got)
		}
	}
}

func TestNodesAreMadeOfWhatIsNotValid(t *testing.T) {
	bad := api.Node{Op: -1, Set: setA, Min: 50, Max: 3, Kids: []api.Node{{Op: 9}, {Op: api.OpSet, Kids: []api.Node{{}}}}}
	for name, got := range map[string]api.Node{
		"Cat": regex.Cat(bad), "Alt": regex.Alt(bad), "And": regex.And(bad), "Not": regex.Not(bad), "Rep": regex.Rep(bad, 0, 0),
	} {
		if len(got.Kids) != 1 || !equal(got.Kids[0], bad) {
			t.Errorf("%s of what isn't valid = %v", name, got)
		}
	}
}

func TestLitIsACatOfSets(t *testing.T) {
	every := make([]byte, 256)
	for b := range every {
		every[b] = byte(b)
	}
	for _, s := range []string{"", "a", "ab", "aa", "\x00", "\x7f\x80\xff", "é€", "\xc3(", "\n", string(every)} {
		want := api.Node{Op: api.OpCat}
		for _, b := range []byte(s) {
			var one api.Set
			one[b/64] = 1 << (b % 64)
			want.Kids = append(want.Kids, api.Node{Op: api.OpSet, Set: one})
		}
		if got := regex.Lit(s); !equal(got, want) {
			t.Errorf("Lit(%q) = %v", s, got)
		}
	}
}

// P2.2

func TestCheckOfValidPatterns(t *testing.T) {
	for _, n := range patterns() {
		if got := regex.Check(n); got != api.OK {
			t.Errorf("Check(%v) = %d", n, got)
		}
	}
}

// checkEverywhere holds what Check tells of n, and of n as a Kid of each kind: first, in the middle, last and far down.
func checkEverywhere(t *testing.T, name string, n api.Node, want api.Errno) {
	t.Helper()
	a := set("a")
	for where, p := range map[string]api.Node{
		"alone":         n,
		"below a Cat":   list(api.OpCat, n, a),
		"below an Alt":  list(api.OpAlt, a, n, a),
		"below an And":  list(api.OpAnd, a, a, n),
		"below a Rep":   rep(n, 0, -1),
		"below a Not":   list(api.OpNot, n),
		"far below":     list(api.OpCat, a, list(api.OpAlt, a, rep(list(api.OpNot, list(api.OpAnd, a, n)), 1, 1)), a),
		"under 40 Nots": chain(n, api.OpNot, 40),
	} {
		if got := regex.Check(p); got != want {
			t.Errorf("%s, %s: Check = %d, want %d", name, where, got, want)
		}
	}
}

func TestCheckOfKinds(t *testing.T) {
	for _, op := range allOps {
		checkEverywhere(t, "a kind that there is", fitting(op), api.OK)
	}
	for _, op := range []int{-1, 6, 7, 256, math.MinInt, math.MaxInt} {
		checkEverywhere(t, "no such kind", api.Node{Op: op}, api.ErrArg)
		checkEverywhere(t, "no such kind, with a Kid", list(op, set("a")), api.ErrArg)
	}
}

func TestCheckOfTheNumberOfKids(t *testing.T) {
	a := set("a")
	for _, c := range []struct {
		name string
		op   int
		want [4]api.Errno // with so many Kids
	}{
		{"OpSet", api.OpSet, [4]api.Errno{api.OK, api.ErrArg, api.ErrArg, api.ErrArg}},
		{"OpRep", api.OpRep, [4]api.Errno{api.ErrArg, api.OK, api.ErrArg, api.ErrArg}},
		{"OpNot", api.OpNot, [4]api.Errno{api.ErrArg, api.OK, api.ErrArg, api.ErrArg}},
		{"OpCat", api.OpCat, [4]api.Errno{}},
		{"OpAlt", api.OpAlt, [4]api.Errno{}},
		{"OpAnd", api.OpAnd, [4]api.Errno{}},
	} {
		for n, want := range c.want {
			checkEverywhere(t, c.name, list(c.op, slices.Repeat([]api.Node{a}, n)...), want)
		}
	}
	checkEverywhere(t, "an OpSet with an empty list", api.Node{Op: api.OpSet, Kids: []api.Node{}}, api.OK)
	checkEverywhere(t, "an OpNot with an empty list", api.Node{Op: api.OpNot, Kids: []api.Node{}}, api.ErrArg)
	checkEverywhere(t, "a Cat of many", list(api.OpCat, slices.Repeat([]api.Node{a}, 1000)...), api.OK)
}

func TestCheckOfMinAndMaxOfEveryKind(t *testing.T) {
	edges := []int{math.MinInt, -33, -2, -1, 0, 1, 2, 31, 32, 33, 34, math.MaxInt}
	for _, op := range allOps {
		for _, least := range edges {
			for _, most := range edges {
				n := fitting(op)
				n.Min, n.Max = least, most
				want := api.ErrArg
				if least >= 0 && least <= 32 && (most < 0 || most >= least && most <= 32) {
					want = api.OK
				}
				if got := regex.Check(n); got != want {
					t.Errorf("kind %d, Min %d, Max %d: Check = %d, want %d", op, least, most, got, want)
				}
				if got := regex.Check(list(api.OpCat, set("a"), n)); got != want {
					t.Errorf("kind %d below a Cat, Min %d, Max %d: Check = %d, want %d", op, least, most, got, want)
				}
			}
		}
	}
}

func TestCheckOfDepth(t *testing.T) {
	for _, op := range []int{api.OpCat, api.OpAlt, api.OpAnd, api.OpRep, api.OpNot} {
		for _, leaf := range []api.Node{set("a"), list(api.OpCat), list(api.OpAlt), list(api.OpAnd)} {
			for depth, want := range map[int]api.Errno{1: api.OK, 2: api.OK, 63: api.OK, 64: api.OK, 65: api.ErrArg, 66: api.ErrArg, 1 << 16: api.ErrArg} {
				if got := regex.Check(chain(leaf, op, depth-1)); got != want {
					t.Errorf("kind %d, depth %d: Check = %d, want %d", op, depth, got, want)
				}
			}
		}
	}
}

// The greatest depth counts, not the first, the last or the sum of the Kids'.
func TestCheckOfDepthWithSeveralKids(t *testing.T) {
	flat, most, over := set("a"), chain(set("a"), api.OpNot, 62), chain(set("a"), api.OpNot, 63)
	for _, op := range []int{api.OpCat, api.OpAlt, api.OpAnd} {
		for _, kids := range [][]api.Node{{most, flat}, {flat, most}, {flat, most, flat}, {most, most, most}} {
			if got := regex.Check(list(op, kids...)); got != api.OK {
				t.Errorf("kind %d, depth 64: Check = %d", op, got)
			}
		}
		for _, kids := range [][]api.Node{{over, flat}, {flat, over}, {flat, over, flat}, {most, over}} {
			if got := regex.Check(list(op, kids...)); got != api.ErrArg {
				t.Errorf("kind %d, depth 65: Check = %d", op, got)
			}
		}
	}
}

func TestCheckEndsOnAPatternThatHoldsItself(t *testing.T) {
	for _, op := range allOps {
		kids := make([]api.Node, 2)
		kids[0] = api.Node{Op: op, Kids: kids[:1]}
		kids[1] = api.Node{Op: op, Kids: kids}
		for _, n := range kids {
			if got := regex.Check(n); got != api.ErrArg {
				t.Errorf("kind %d: Check = %d", op, got)
			}
		}
	}
}

// P2.3

// nodes are all nodes of a pattern, itself included.
func nodes(n api.Node) []api.Node {
	l := []api.Node{n}
	for i := 0; i < len(l); i++ {
		l = append(l, l[i].Kids...)
	}
	return l
}

// oddPatterns are patterns that aren't valid; Size, Bytes and Same are promised for them too.
func oddPatterns() []api.Node {
	return []api.Node{
		{Op: -1}, {Op: 6, Set: setA},
		{Op: api.OpSet, Set: setA, Kids: []api.Node{set("b"), {Op: api.OpSet, Set: byteset.Of("c"), Kids: []api.Node{set("d")}}}},
		{Op: api.OpCat, Set: setA, Min: -3, Max: 99, Kids: []api.Node{set("b")}},
		list(api.OpRep), list(api.OpNot), list(api.OpNot, set("a"), set("b")),
		list(9, set("a"), list(-9, set("b"), set("c"))),
		chain(set("a"), api.OpNot, 200),
	}
}

func TestSizeAndBytesAreOfAllNodes(t *testing.T) {
	for _, n := range append(patterns(), oddPatterns()...) {
		all := nodes(n)
		if got := regex.Size(n); got != len(all) {
			t.Errorf("Size(%v) = %d, want %d", n, got, len(all))
		}
		var want api.Set
		for _, m := range all {
			for i := range want {
				if m.Op == api.OpSet {
					want[i] |= m.Set[i]
				}
			}
		}
		if got := regex.Bytes(n); got != want {
			t.Errorf("Bytes(%v) = %x, want %x", n, got, want)
		}
	}
}

func TestSizeEdges(t *testing.T) {
	for _, c := range []struct {
		name string
		n    api.Node
		want int
	}{
		{"the zero Node", api.Node{}, 1},
		{"a Cat without Kids", list(api.OpCat), 1},
		{"Lit of the empty text", regex.Lit(""), 1},
		{"Lit of abc", regex.Lit("abc"), 4},
		{"a Rep counts its Kid once", rep(set("a"), 32, 32), 2},
		{"equal Kids count each", list(api.OpAlt, set("a"), set("a")), 3},
	} {
		if got := regex.Size(c.n); got != c.want {
			t.Errorf("%s: Size = %d, want %d", c.name, got, c.want)
		}
	}
}

func TestBytesEdges(t *testing.T) {
	for _, c := range []struct {
		name string
		n    api.Node
		want api.Set
	}{
		{"the zero Node", api.Node{}, api.Set{}},
		{"a Set", set("ab"), byteset.Of("ab")},
		{"all bytes", api.Node{Op: api.OpSet, Set: anyByte}, anyByte},
		{"an And is no intersection", list(api.OpAnd, set("a"), set("b")), byteset.Of("ab")},
		{"a Not is no complement", list(api.OpNot, set("a")), setA},
		{"a Rep of no times", rep(set("a"), 0, 0), setA},
		{"the Set of another kind", api.Node{Op: api.OpCat, Set: setA, Kids: []api.Node{set("b")}}, setB},
		{"Kids of an OpSet", api.Node{Op: api.OpSet, Set: setA, Kids: []api.Node{set("b")}}, byteset.Of("ab")},
		{"Lit", regex.Lit("\x00\xffz\x80"), byteset.Of("\x00\xffz\x80")},
	} {
		if got := regex.Bytes(c.n); got != c.want {
			t.Errorf("%s: Bytes = %x, want %x", c.name, got, c.want)
		}
	}
}

func TestSameOfEqualPatterns(t *testing.T) {
	for _, n := range append(patterns(), oddPatterns()...) {
		if !regex.Same(n, n) || !regex.Same(n, deep(n)) || !regex.Same(deep(n), n) {
			t.Errorf("Same of %v and its like = false", n)
		}
	}
}

func TestSameOfAllPairs(t *testing.T) {
	l := append(patterns(), oddPatterns()...)
	for _, a := range l {
		for _, b := range l {
			if got, want := regex.Same(a, b), equal(a, b); got != want {
				t.Fatalf("Same(%v, %v) = %v", a, b, got)
			}
		}
	}
}

// variants are patterns that differ from n in one field alone.
func variants(n api.Node) []api.Node {
	other := func(change func(*api.Node)) api.Node {
		m := deep(n)
		change(&m)
		return m
	}
	l := []api.Node{
		other(func(m *api.Node) { m.Op++ }),
		other(func(m *api.Node) { m.Min++ }),
		other(func(m *api.Node) { m.Max-- }),
		other(func(m *api.Node) { m.Kids = append(m.Kids, api.Node{}) }),
		other(func(m *api.Node) { m.Kids = append([]api.Node{{}}, m.Kids...) }),
	}
	for i := range n.Set {
		l = append(l, other(func(m *api.Node) { m.Set[i] ^= 1 << 63 }), other(func(m *api.Node) { m.Set[i] ^= 1 }))
	}
	if len(n.Kids) > 0 {
		l = append(l, other(func(m *api.Node) { m.Kids = m.Kids[1:] }), other(func(m *api.Node) { m.Kids = m.Kids[:len(m.Kids)-1] }))
	}
	return l
}

func TestSameOfPatternsThatDifferInOneField(t *testing.T) {
	bases := append(oddPatterns(), patterns()[:30]...)
	for _, op := range allOps {
		// Fields that have no meaning for a kind count all the same.
		bases = append(bases, api.Node{Op: op, Set: setA, Min: 1, Max: 2, Kids: []api.Node{set("a"), set("b")}})
	}
	for _, n := range bases {
		for _, m := range variants(n) {
			if regex.Same(n, m) || regex.Same(m, n) {
				t.Errorf("Same of %v and %v = true", n, m)
			}
			for _, op := range allOps {
				a := chain(list(op, set("x"), n, set("y")), op, 70)
				b := chain(list(op, set("x"), m, set("y")), op, 70)
				if regex.Same(a, b) || !regex.Same(a, deep(a)) {
					t.Errorf("far down below kind %d: Same of %v and %v", op, n, m)
				}
			}
		}
	}
}

func TestSameOfKidsInAnotherOrder(t *testing.T) {
	a, b := set("a"), set("b")
	for _, op := range allOps {
		if regex.Same(list(op, a, b), list(op, b, a)) {
			t.Errorf("kind %d: Same of Kids in another order = true", op)
		}
	}
}

func TestSameOfNilAndEmptyKids(t *testing.T) {
	for _, op := range allOps {
		without, empty := api.Node{Op: op}, api.Node{Op: op, Kids: []api.Node{}}
		if !regex.Same(without, empty) || !regex.Same(list(op, empty), list(op, without)) {
			t.Errorf("kind %d: Same of nil and empty Kids = false", op)
		}
	}
}

func TestSizeBytesAndSameOfDeepNesting(t *testing.T) {
	const levels = 1<<16 - 1
	n, m := chain(set("a"), api.OpNot, levels), chain(set("b"), api.OpNot, levels)
	if got := regex.Size(n); got != levels+1 {
		t.Errorf("Size = %d", got)
	}
	if got := regex.Bytes(n); got != setA {
		t.Errorf("Bytes = %x", got)
	}
	if !regex.Same(n, chain(set("a"), api.OpNot, levels)) || regex.Same(n, m) {
		t.Error("Same")
	}
	if got := regex.Cat(n); regex.Size(got) != levels+2 {
		t.Error("Cat")
	}
}

// P2.4

func TestNullIsAMatchOfTheEmptyText(t *testing.T) {
	for _, n := range patterns() {
		if got, want := regex.Null(n), matches(n, ""); got != want {
			t.Errorf("Null(%v) = %v", n, got)
		}
	}
}

func TestNullEdges(t *testing.T) {
	a, empty, none := set("a"), list(api.OpCat), list(api.OpAlt)
	for _, c := range []struct {
		name string
		n    api.Node
		want bool
	}{
		{"a Set", a, false},
		{"a Set of all bytes", api.Node{Op: api.OpSet, Set: anyByte}, false},
		{"the empty Set", set(""), false},
		{"a Cat without Kids", empty, true},
		{"an Alt without Kids", none, false},
		{"an And without Kids", list(api.OpAnd), true},
		{"a Cat with one that doesn't", list(api.OpCat, empty, a, empty), false},
		{"a Cat of those that do", list(api.OpCat, empty, empty), true},
		{"an Alt with one that does", list(api.OpAlt, a, empty, a), true},
		{"an Alt of those that don't", list(api.OpAlt, a, a), false},
		{"an And with one that doesn't", list(api.OpAnd, empty, a), false},
		{"an And of those that do", list(api.OpAnd, empty, empty), true},
		{"a Rep with Min 0", rep(a, 0, -1), true},
		{"a Rep with Min 0 and Max 0", rep(a, 0, 0), true},
		{"a Rep with Min 0 of nothing", rep(none, 0, 3), true},
		{"a Rep with Min 1", rep(a, 1, -1), false},
		{"a Rep with Min 1 of what does", rep(empty, 1, 1), true},
		{"a Rep with Min 32 of what does", rep(rep(a, 0, 1), 32, 32), true},
		{"a Not of what doesn't", list(api.OpNot, a), true},
		{"a Not of what does", list(api.OpNot, empty), false},
		{"a Not of a Rep with Min 0", list(api.OpNot, rep(a, 0, -1)), false},
		{"a Not of a Not", list(api.OpNot, list(api.OpNot, empty)), true},
		{"63 Nots of a Set", chain(a, api.OpNot, 63), true},
		{"Lit of the empty text", regex.Lit(""), true},
		{"Lit of a text", regex.Lit("a"), false},
	} {
		if got := regex.Null(c.n); got != c.want {
			t.Errorf("%s: Null = %v", c.name, got)
		}
	}
}

// backSlow turns each Cat round, building from the other end.
func backSlow(n api.Node) api.Node {
	m := api.Node{Op: n.Op, Set: n.Set, Min: n.Min, Max: n.Max, Kids: make([]api.Node, len(n.Kids))}
	for i, kid := range n.Kids {
		at := i
		if n.Op == api.OpCat {
			at = len(n.Kids) - 1 - i
		}
		m.Kids[at] = backSlow(kid)
	}
	return m
}

func TestBackTurnsEveryCat(t *testing.T) {
	for _, n := range patterns() {
		if got, want := regex.Back(n), backSlow(n); !equal(got, want) {
			t.Errorf("Back(%v) = %v, want %v", n, got, want)
		}
	}
	a, b, c := set("a"), set("b"), set("c")
	for _, x := range []struct {
		name    string
		n, want api.Node
	}{
		{"a text", regex.Lit("abc\xff"), regex.Lit("\xffcba")},
		{"a Cat without Kids", list(api.OpCat), list(api.OpCat)},
		{"an Alt", list(api.OpAlt, a, b, c), list(api.OpAlt, a, b, c)},
		{"an And", list(api.OpAnd, a, b, c), list(api.OpAnd, a, b, c)},
		{"a Cat in a Cat", list(api.OpCat, a, list(api.OpCat, b, c)), list(api.OpCat, list(api.OpCat, c, b), a)},
		{"below a Rep", rep(list(api.OpCat, a, b), 2, -3), rep(list(api.OpCat, b, a), 2, -3)},
		{"below a Not", list(api.OpNot, list(api.OpCat, a, b)), list(api.OpNot, list(api.OpCat, b, a))},
		{"below an Alt and an And", list(api.OpAlt, a, list(api.OpAnd, list(api.OpCat, a, b))), list(api.OpAlt, a, list(api.OpAnd, list(api.OpCat, b, a)))},
		{"fields without meaning", api.Node{Op: api.OpCat, Set: setA, Min: 3, Max: 7, Kids: []api.Node{a, b}}, api.Node{Op: api.OpCat, Set: setA, Min: 3, Max: 7, Kids: []api.Node{b, a}}},
	} {
		if got := regex.Back(x.n); !equal(got, x.want) {
			t.Errorf("%s: Back = %v, want %v", x.name, got, x.want)
		}
	}
}

func TestBackMatchesTextsFromTheirEnds(t *testing.T) {
	for _, n := range patterns()[:150] {
		back := regex.Back(n)
		for _, s := range []string{"", "a", "b", "ab", "ba", "abb", "bba", "aab", "cab"} {
			turned := []byte(s)
			slices.Reverse(turned)
			if matches(n, s) != matches(back, string(turned)) {
				t.Errorf("%v on %q", n, s)
			}
		}
	}
}

// P2.5

func TestBackOfBack(t *testing.T) {
	for _, n := range patterns() {
		back := regex.Back(n)
		if again := regex.Back(back); !equal(again, n) || !regex.Same(again, n) {
			t.Errorf("Back of Back of %v = %v", n, again)
		}
		if regex.Null(back) != regex.Null(n) {
			t.Errorf("Null of %v and of its Back", n)
		}
		if regex.Check(back) != api.OK || regex.Size(back) != regex.Size(n) || regex.Bytes(back) != regex.Bytes(n) {
			t.Errorf("Back of %v has other nodes", n)
		}
	}
}

// Rule 1: no call panics, even of what isn't valid.

func TestNullAndBackOfWhatIsNotValid(t *testing.T) {
	for _, n := range oddPatterns() {
		regex.Null(n)
		regex.Back(n)
	}
}

// Rule 3: arguments are neither modified nor retained, and results are in new memory.

// roomy is a pattern whose lists all have more room than they use, with nodes beyond their ends.
func roomy(n api.Node) api.Node {
	kids := make([]api.Node, 0, len(n.Kids)+2)
	for _, kid := range n.Kids {
		kids = append(kids, roomy(kid))
	}
	beyond := kids[len(kids):cap(kids)]
	for i := range beyond {
		beyond[i] = api.Node{Op: api.OpSet, Set: api.Set{uint64(i) + 1}, Min: 5, Max: 6}
	}
	n.Kids = kids
	return n
}

// makers are the calls that return a pattern made of patterns.
func makers() map[string]func(...api.Node) api.Node {
	return map[string]func(...api.Node) api.Node{
		"Cat":  regex.Cat,
		"Alt":  regex.Alt,
		"And":  regex.And,
		"Not":  func(l ...api.Node) api.Node { return regex.Not(l[0]) },
		"Rep":  func(l ...api.Node) api.Node { return regex.Rep(l[0], 1, 2) },
		"Back": func(l ...api.Node) api.Node { return regex.Back(l[0]) },
	}
}

func TestArgumentsAreNotModified(t *testing.T) {
	for _, n := range patterns() {
		args := roomy(list(api.OpCat, n, n)).Kids
		before := deep(list(api.OpCat, args...)).Kids
		for _, make := range makers() {
			make(args...)
		}
		for _, n := range args {
			regex.Check(n)
			regex.Null(n)
			regex.Size(n)
			regex.Bytes(n)
			regex.Same(n, args[0])
		}
		if !slices.EqualFunc(args[:cap(args)], before[:cap(before)], untouched) {
			t.Fatalf("a call on %v modified its argument", n)
		}
	}
}

func TestArgumentsAreNotRetained(t *testing.T) {
	for name, make := range makers() {
		for _, n := range patterns() {
			args := roomy(list(api.OpCat, n, n)).Kids
			got := make(args...)
			want := deep(got)
			spoil(args)
			if !equal(got, want) {
				t.Fatalf("%s of %v changed with its argument", name, n)
			}
			args = roomy(list(api.OpCat, n, n)).Kids
			before := deep(list(api.OpCat, args...)).Kids
			spoil(make(args...).Kids)
			if !slices.EqualFunc(args[:cap(args)], before[:cap(before)], untouched) {
				t.Fatalf("an argument of %s changed with its result, of %v", name, n)
			}
		}
	}
}

// lists are all lists of Kids of a pattern that have room for a node.
func lists(n api.Node) [][]api.Node {
	var l [][]api.Node
	for _, m := range nodes(n) {
		if cap(m.Kids) > 0 {
			l = append(l, m.Kids[:cap(m.Kids)])
		}
	}
	return l
}

func TestListsOfOneAnswerShareNoMemory(t *testing.T) {
	for name, make := range makers() {
		for _, n := range patterns() {
			got := make(list(api.OpAlt, n, n), list(api.OpAlt, n, n))
			seen := map[*api.Node]int{}
			for _, l := range lists(got) {
				for i := range l {
					seen[&l[i]]++
				}
			}
			for _, times := range seen {
				if times > 1 {
					t.Fatalf("two lists of %s of %v share memory", name, n)
				}
			}
		}
	}
	first, again := regex.Lit("abc"), regex.Lit("abc")
	spoil(first.Kids)
	if !equal(again, list(api.OpCat, set("a"), set("b"), set("c"))) {
		t.Error("two results of Lit share memory")
	}
}
