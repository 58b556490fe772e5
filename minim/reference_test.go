package minim_test

import (
	"slices"
	"testing"

	"homograph/api"
	"homograph/dfa"
	"homograph/drawn"
	"homograph/minim"
)

func state(accept uint64, arcs ...api.Arc) api.State { return api.State{Accept: accept, Arcs: arcs} }

func arc(lo, hi uint8, to int) api.Arc { return api.Arc{Lo: lo, Hi: hi, To: to} }

// by is an arc by one byte.
func by(b uint8, to int) api.Arc { return arc(b, b, to) }

// resultOf is the result of a machine for a text.
func resultOf(m api.Machine, s string) uint64 {
	if dfa.Check(m) != api.OK {
		return 0
	}
	at := dfa.Run(m, s)
	if at < 0 {
		return 0
	}
	return m[at].Accept
}

// tableOf is where a sound machine goes from each state by each byte; behind the states is nowhere, from where it goes on to nowhere.
func tableOf(m api.Machine) [][256]int {
	table := make([][256]int, len(m)+1)
	for from := range table {
		for b := range 256 {
			table[from][b] = dfa.Next(m, from, uint8(b))
			if table[from][b] < 0 {
				table[from][b] = len(m)
			}
		}
	}
	return table
}

// usefulOf is what Useful should tell of a sound machine: all states are gone through again until nothing changes.
func usefulOf(m api.Machine) []bool {
	ahead, behind := make([]bool, len(m)+1), make([]bool, len(m)+1)
	table := tableOf(m)
	ahead[0] = true
	for again := true; again; {
		again = false
		for from := range m {
			behindIt := behind[from] || m[from].Accept != 0
			for _, to := range table[from] {
				again = again || ahead[from] && !ahead[to] || behind[to] && !behindIt
				ahead[to] = ahead[to] || ahead[from]
				behindIt = behindIt || behind[to]
			}
			again = again || behindIt && !behind[from]
			behind[from] = behindIt
		}
	}
	useful := make([]bool, len(m))
	for i := range m {
		useful[i] = ahead[i] && behind[i]
	}
	return useful
}

// apartOf is which pairs of states, or of a state and nowhere, don't end the same behind all texts.
func apartOf(m api.Machine) [][]bool {
	table := tableOf(m)
	accepts := make([]uint64, len(m)+1)
	for i := range m {
		accepts[i] = m[i].Accept
	}
	apart := make([][]bool, len(m)+1)
	for i := range apart {
		for j := range accepts {
			apart[i] = append(apart[i], accepts[i] != accepts[j])
		}
	}
	for again := true; again; {
		again = false
		for i := range apart {
			for j := range i {
				for b := 0; b < 256 && !apart[i][j]; b++ {
					if apart[table[i][b]][table[j][b]] {
						apart[i][j], apart[j][i], again = true, true, true
					}
				}
			}
		}
	}
	return apart
}

// leastOf is what Least should tell of a sound machine: a state is made of each state that isn't like one that is there already.
func leastOf(m api.Machine) api.Machine {
	apart, table := apartOf(m), tableOf(m)
	if !apart[0][len(m)] {
		return nil
	}
	var least api.Machine
	kept := []int{0}
	for at := 0; at < len(kept); at++ {
		var to [256]int
		for b, target := range table[kept[at]] {
			to[b] = -1
			if !apart[target][len(m)] {
				continue
			}
			to[b] = slices.IndexFunc(kept, func(k int) bool { return !apart[k][target] })
			if to[b] < 0 {
				to[b] = len(kept)
				kept = append(kept, target)
			}
		}
		least = append(least, state(m[kept[at]].Accept, drawn.ArcsOf(to)...))
	}
	return least
}

// differOf is what Differ should tell: all pairs of states are gone through, by the shortest texts first.
func differOf(a, b api.Machine) (string, bool) {
	type trip struct {
		at   [2]int
		text string
	}
	left, right := tableOf(a), tableOf(b)
	seen := map[[2]int]bool{{0, 0}: true}
	trips := []trip{{}}
	for i := 0; i < len(trips); i++ {
		at, text := trips[i].at, trips[i].text
		if resultOf(a, text) != resultOf(b, text) {
			return text, true
		}
		for x := range 256 {
			next := [2]int{left[at[0]][x], right[at[1]][x]}
			if !seen[next] {
				seen[next] = true
				trips = append(trips, trip{next, text + string([]byte{byte(x)})})
			}
		}
	}
	return "", false
}

// shuffled is a machine with its states behind the first one in another order.
func shuffled(s *drawn.Source, m api.Machine) api.Machine {
	place := make([]int, len(m))
	for i := range place {
		place[i] = i
		if i > 1 {
			other := 1 + s.Below(i)
			place[i], place[other] = place[other], place[i]
		}
	}
	out := make(api.Machine, len(m))
	for i, old := range m {
		var arcs []api.Arc
		for _, a := range old.Arcs {
			arcs = append(arcs, arc(a.Lo, a.Hi, place[a.To]))
		}
		out[place[i]] = state(old.Accept, arcs...)
	}
	return out
}

// blown is a machine that does what a sound one does, with up to three states for each of its, and some more that aren't useful.
func blown(s *drawn.Source, m api.Machine) api.Machine {
	copies := make([][]int, len(m)+1)
	count := 0
	for i := range copies {
		for range 1 + s.Below(3) {
			copies[i] = append(copies[i], count)
			count++
		}
	}
	table := tableOf(m)
	var out api.Machine
	for i, l := range copies {
		for range l {
			var to [256]int
			for b, target := range table[i] {
				// Some bytes beside each other must lead to the same copy, so that there are arcs of several bytes.
				if b > 0 && target == table[i][b-1] && s.Below(16) > 0 {
					to[b] = to[b-1]
					continue
				}
				to[b] = copies[target][s.Below(len(copies[target]))]
				if target == len(m) && s.Below(3) > 0 {
					to[b] = -1
				}
			}
			accept := uint64(0)
			if i < len(m) {
				accept = m[i].Accept
			}
			out = append(out, state(accept, drawn.ArcsOf(to)...))
		}
	}
	// This one isn't reached, wherever it leads.
	return append(out, state(uint64(s.Below(3)), by('a', 0), by('c', s.Below(count)), by('z', s.Below(count))))
}

// endRarely leaves a machine at most one end, so that the texts to it are longer.
func endRarely(s *drawn.Source, m api.Machine) {
	for i := range m {
		m[i].Accept = 0
	}
	m[s.Below(len(m))].Accept = uint64(s.Below(5))
}

// machines are sound machines of all sorts, first of patterns and then drawn ones.
func machines(drawnOnes int) []api.Machine {
	l := []api.Machine{nil, {}, {state(0)}, {state(1)}, {state(0, arc(0, 255, 0))}, {state(7, arc(0, 255, 0))}, {state(0, by(0, 1), by(255, 1)), state(1 << 63)}}
	for _, s := range drawn.PatternTexts() {
		l = append(l, drawn.MachineOf(s))
	}
	s := drawn.Source(80)
	for i := range drawnOnes {
		m := s.Machine([]int{4, 4, 9, 9}[i%4])
		if i%2 == 0 {
			endRarely(&s, m)
		}
		if i%4 < 2 {
			m = blown(&s, m)
		}
		l = append(l, m)
	}
	return l
}

// mustBe holds that Least of a machine is a certain one.
func mustBe(t *testing.T, name string, m, want api.Machine) {
	t.Helper()
	if got := minim.Least(m); !drawn.SameMachines(got, want) {
		t.Errorf("Least of %s = %v, want %v", name, got, want)
	}
}

// mustUse holds that Useful of a machine is a certain row.
func mustUse(t *testing.T, name string, m api.Machine, want ...bool) {
	t.Helper()
	if got := minim.Useful(m); !slices.Equal(got, want) {
		t.Errorf("Useful of %s = %v, want %v", name, got, want)
	}
}

// mustDiffer holds that two machines differ by a text first, whichever stands first.
func mustDiffer(t *testing.T, name string, a, b api.Machine, want string) {
	t.Helper()
	for _, c := range [][2]api.Machine{{a, b}, {b, a}} {
		if got, ok := minim.Differ(c[0], c[1]); !ok || got != want {
			t.Errorf("Differ of %s = %s, %t, want %s", name, shown(got), ok, shown(want))
		}
		if minim.Alike(c[0], c[1]) {
			t.Errorf("%s are alike", name)
		}
	}
}

// mustBeAlike holds that two machines don't differ, whichever stands first.
func mustBeAlike(t *testing.T, name string, a, b api.Machine) {
	t.Helper()
	for _, c := range [][2]api.Machine{{a, b}, {b, a}} {
		if got, ok := minim.Differ(c[0], c[1]); ok || got != "" {
			t.Errorf("Differ of %s = %s, %t", name, shown(got), ok)
		}
		if !minim.Alike(c[0], c[1]) {
			t.Errorf("%s aren't alike", name)
		}
	}
}

// mustEnd holds what Shortest of a machine is, and that Differ of it and one without states is the same.
func mustEnd(t *testing.T, name string, m api.Machine, want string, ends bool) {
	t.Helper()
	if got, ok := minim.Shortest(m); got != want || ok != ends {
		t.Errorf("Shortest of %s = %s, %t, want %s, %t", name, shown(got), ok, shown(want), ends)
	}
	if ends {
		mustDiffer(t, name+" and no states", m, nil, want)
	} else {
		mustBeAlike(t, name+" and no states", m, nil)
	}
}

// shown is a text as it is written in a failure, with a long one's middle left out.
func shown(s string) string {
	const most = 40
	if len(s) > most {
		return "a text of many bytes, " + shown(s[:most/2]) + " at first"
	}
	var out []byte
	for i := range len(s) {
		out = append(out, "0123456789abcdef"[s[i]>>4], "0123456789abcdef"[s[i]&15], ' ')
	}
	return "[" + string(out) + "]"
}
