package dfa_test

import (
	"slices"
	"testing"

	"homograph/api"
	"homograph/byteset"
	"homograph/deriv"
	"homograph/dfa"
	"homograph/drawn"
	"homograph/pattern"
	"homograph/regex"
)

// one is a Set of the bytes of a text.
func one(s string) api.Node { return regex.Set(byteset.Of(s)) }

// nextOf is what Next should tell: from the last arc to the first one, the one that is seen last counts.
func nextOf(m api.Machine, state int, b uint8) int {
	next := -1
	if state >= 0 && state < len(m) {
		for _, arc := range slices.Backward(m[state].Arcs) {
			if b >= arc.Lo && b <= arc.Hi {
				next = arc.To
			}
		}
	}
	return next
}

// runOf is what Run should tell, from the text's end to its beginning: where the machine is ahead of the last byte comes first.
func runOf(m api.Machine, s string) int {
	if len(m) == 0 {
		return -1
	}
	if s == "" {
		return 0
	}
	before := runOf(m, s[:len(s)-1])
	if before == -1 {
		return -1
	}
	return nextOf(m, before, s[len(s)-1])
}

func wholeOf(m api.Machine, s string) bool {
	state := runOf(m, s)
	return state >= 0 && state < len(m) && m[state].Accept != 0
}

// checkOf is what Check should tell: the arcs that may be are those that Arcs makes of where they lead.
func checkOf(m api.Machine) api.Errno {
	if len(m) > 4096 {
		return api.ErrCode
	}
	for state, s := range m {
		var to [256]int
		for b := range to {
			to[b] = nextOf(m, state, uint8(b))
		}
		out := func(arc api.Arc) bool { return arc.To < 0 || arc.To >= len(m) || arc.Lo > arc.Hi }
		if slices.ContainsFunc(s.Arcs, out) || !slices.Equal(s.Arcs, drawn.ArcsOf(to)) {
			return api.ErrCode
		}
	}
	return api.OK
}

// machineOf is what Of should tell of a pattern without a limit that matters, byte by byte; it gives up behind so many states.
func machineOf(n api.Node, most int) (api.Machine, bool) {
	first := deriv.Norm(n)
	if deriv.Dead(first) {
		return nil, true
	}
	var m api.Machine
	forms := []api.Node{first}
	for at := 0; at < len(forms); at++ {
		if len(forms) > most {
			return nil, false
		}
		var to [256]int
		for b := range to {
			to[b] = -1
			behind := deriv.Behind(forms[at], uint8(b))
			if deriv.Dead(behind) {
				continue
			}
			to[b] = slices.IndexFunc(forms, func(n api.Node) bool { return regex.Same(n, behind) })
			if to[b] < 0 {
				to[b] = len(forms)
				forms = append(forms, behind)
			}
		}
		m = append(m, api.State{Accept: map[bool]uint64{true: 1}[deriv.Whole(forms[at], "")], Arcs: drawn.ArcsOf(to)})
	}
	return m, true
}

// patterns are valid patterns of all shapes.
func patterns(t *testing.T, drawnOnes int) []api.Node {
	t.Helper()
	l := []api.Node{
		regex.Alt(), regex.And(), regex.Not(regex.Alt()), regex.Not(regex.And()), regex.Cat(regex.Alt()), regex.Alt(regex.Cat()), regex.Rep(regex.Alt(), 0, -9), regex.Rep(one("a"), 2, -9),
		one(""), one("\x00"), one("\xff"), one("\x00\xff"), regex.Set(byteset.Range(0, 255)), regex.Set(byteset.Range(1, 254)), regex.Not(one("\x00\x7f\xff")), regex.Lit("\x00\xff\x80"),
		{Op: api.OpSet, Set: byteset.Of("a"), Min: 1, Max: 3}, {Op: api.OpCat, Set: byteset.Of("a"), Max: -1, Kids: []api.Node{one("b"), one("c")}},
	}
	for _, s := range drawn.PatternTexts() {
		l = append(l, parse(t, s))
	}
	s := drawn.Source(7)
	for range drawnOnes {
		l = append(l, s.Pattern(1+s.Below(5)))
	}
	return l
}

// parse is the pattern that a text stands for.
func parse(t *testing.T, s string) api.Node {
	t.Helper()
	n, e, at := pattern.Parse(s)
	if e != api.OK {
		t.Fatalf("%q is no pattern: %d, %d", s, e, at)
	}
	return n
}

// made is the machine of a pattern that has one.
func made(t *testing.T, n api.Node) api.Machine {
	t.Helper()
	m, e := dfa.Of(n, api.MaxStates)
	if e != api.OK {
		t.Fatalf("Of(%s): %d", pattern.Show(n), e)
	}
	return m
}

func state(accept uint64, arcs ...api.Arc) api.State { return api.State{Accept: accept, Arcs: arcs} }

func arc(lo, hi uint8, to int) api.Arc { return api.Arc{Lo: lo, Hi: hi, To: to} }
