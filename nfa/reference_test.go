package nfa_test

import (
	"slices"
	"testing"

	"homograph/api"
	"homograph/byteset"
	"homograph/drawn"
	"homograph/nfa"
	"homograph/pattern"
	"homograph/regex"
)

// one is a Set of the bytes of a text.
func one(s string) api.Node { return regex.Set(byteset.Of(s)) }

// star is a pattern as often as may be.
func star(n api.Node) api.Node { return regex.Rep(n, 0, -1) }

// ways are what is between a fragment's states, and which state is the next one.
type ways struct {
	eps  [][2]int
	arcs []nfa.Arc
	next int
}

func (w *ways) join(from, to int) { w.eps = append(w.eps, [2]int{from, to}) }

// put adds the fragment of a pattern, and tells its states.
func (w *ways) put(n api.Node) (int, int) {
	start := w.next
	inside := waysOf(n, start)
	w.eps = append(w.eps, inside.eps...)
	w.arcs = append(w.arcs, inside.arcs...)
	w.next = inside.next
	return start, start + 1
}

// waysOf is a second reading of the chapter's fragments: that of a pattern whose start has a number.
func waysOf(n api.Node, start int) ways {
	end := start + 1
	w := ways{next: start + 2}
	if n.Op == api.OpSet {
		w.arcs = []nfa.Arc{{From: start, To: end, Set: n.Set}}
		return w
	}
	if n.Op == api.OpAlt {
		for _, kid := range n.Kids {
			s, e := w.put(kid)
			w.join(start, s)
			w.join(e, end)
		}
		return w
	}
	kids, leave, loop := n.Kids, len(n.Kids), n.Op == api.OpRep && n.Max < 0
	if n.Op == api.OpRep {
		// A repetition is a row of copies of the Kid, from some of which on it may be left.
		kids, leave = slices.Repeat(n.Kids, max(n.Min, n.Max)), n.Min
	}
	here := start
	for i, kid := range kids {
		if i >= leave {
			w.join(here, end)
		}
		s, e := w.put(kid)
		w.join(here, s)
		here = e
	}
	if loop {
		s, e := w.put(n.Kids[0])
		w.join(here, s)
		w.join(e, s)
		w.join(e, end)
	}
	w.join(here, end)
	return w
}

// machineOf is what Build should tell of a pattern that has a machine.
func machineOf(n api.Node) nfa.Nfa {
	w := waysOf(n, 0)
	return nfa.Nfa{Count: w.next, Eps: w.eps, Arcs: w.arcs, Start: 0, End: 1}
}

// closed is what Close should tell: it takes Eps after Eps until nothing changes.
func closed(a nfa.Nfa, l []int) []int {
	in := make([]bool, a.Count)
	for _, state := range l {
		if state >= 0 && state < a.Count {
			in[state] = true
		}
	}
	for changed := true; changed; {
		changed = false
		for _, e := range a.Eps {
			if in[e[0]] && !in[e[1]] {
				in[e[1]], changed = true, true
			}
		}
	}
	var out []int
	for state, is := range in {
		if is {
			out = append(out, state)
		}
	}
	return out
}

// stepped is what Step should tell.
func stepped(a nfa.Nfa, l []int, b uint8) []int {
	var to []int
	for _, arc := range a.Arcs {
		if slices.Contains(l, arc.From) && arc.Set[b/64]>>(b%64)&1 == 1 {
			to = append(to, arc.To)
		}
	}
	return closed(a, to)
}

// tame is a pattern with other kinds instead of And and Not.
func tame(n api.Node) api.Node {
	kids := make([]api.Node, len(n.Kids))
	for i, kid := range n.Kids {
		kids[i] = tame(kid)
	}
	n.Kids = kids
	switch n.Op {
	case api.OpAnd:
		n.Op = api.OpCat
	case api.OpNot:
		n.Op = api.OpAlt
	}
	return n
}

// patterns are patterns of all shapes that have a machine.
func patterns(t *testing.T) []api.Node {
	t.Helper()
	var l []api.Node
	for _, s := range drawn.PatternTexts() {
		l = append(l, tame(parse(t, s)))
	}
	l = append(l, regex.Rep(regex.Cat(), 32, 32), regex.Rep(one("ab"), 1, -32), regex.Rep(regex.Alt(), 0, 0))
	s := drawn.Source(6)
	for range 1500 {
		l = append(l, tame(s.Pattern(1+s.Below(5))))
	}
	return l
}

// parse is the pattern that a text stands for.
func parse(t *testing.T, s string) api.Node {
	t.Helper()
	n, e, at := pattern.Parse(s)
	if e != api.OK {
		t.Fatalf("%q is no pattern: %d, %d", s, e, at)
	}
	return n
}

// built is the machine of a pattern that has one.
func built(t *testing.T, n api.Node) nfa.Nfa {
	t.Helper()
	a, e := nfa.Build(n)
	if e != api.OK {
		t.Fatalf("Build(%s): %d", pattern.Show(n), e)
	}
	return a
}

// same tells whether two machines are the same.
func same(a, b nfa.Nfa) bool {
	return a.Count == b.Count && a.Start == b.Start && a.End == b.End && slices.Equal(a.Eps, b.Eps) && slices.Equal(a.Arcs, b.Arcs)
}

// copied is a machine in new memory.
func copied(a nfa.Nfa) nfa.Nfa {
	a.Eps, a.Arcs = slices.Clone(a.Eps), slices.Clone(a.Arcs)
	return a
}
