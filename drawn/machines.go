package drawn

import (
	"maps"
	"math"
	"slices"

	"homograph/api"
	"homograph/dfa"
	"homograph/pattern"
)

// oddBytes are the bytes at which the arcs of odd machines begin and end.
const oddBytes = "\x00\x01abc\xfe\xff"

// OddMachine is a machine that nobody need accept: its arcs lead to what is no state, meet, and stand in any order.
func (s *Source) OddMachine() api.Machine {
	var m api.Machine
	for range s.Below(5) {
		var arcs []api.Arc
		for range s.Below(6) {
			to := []int{0, 1, 2, 3, 4, -1, -2, 5, math.MaxInt, math.MinInt}[s.Below(10)]
			arcs = append(arcs, api.Arc{Lo: oddBytes[s.Below(7)], Hi: oddBytes[s.Below(7)], To: to})
		}
		m = append(m, api.State{Accept: []uint64{0, 1, 2, 1 << 63, math.MaxUint64}[s.Below(5)], Arcs: arcs})
	}
	return m
}

// Machine is a sound machine of one state at least, and at most so many.
func (s *Source) Machine(most int) api.Machine {
	m := make(api.Machine, 1+s.Below(most))
	for i := range m {
		var to [256]int
		target := -1
		for b := range to {
			if s.Below(40) == 0 || b == 'a' || b == 'b' || b == 'c' || b == 'd' || b == 255 {
				target = s.Below(len(m)+1) - 1
			}
			to[b] = target
		}
		m[i] = api.State{Accept: uint64(s.Below(3)), Arcs: ArcsOf(to)}
	}
	return m
}

// RejectedMachines are machines that dfa.Check rejects, by what is wrong with them. All of them would end something if they were walked.
func RejectedMachines() map[string]api.Machine {
	arc := func(lo, hi uint8, to int) api.Arc { return api.Arc{Lo: lo, Hi: hi, To: to} }
	state := func(accept uint64, arcs ...api.Arc) api.State { return api.State{Accept: accept, Arcs: arcs} }
	many := make(api.Machine, api.MaxStates+1)
	many[0].Accept = 1
	return map[string]api.Machine{
		"too many states":            many,
		"an arc to no state":         {state(1, arc('a', 'a', 1))},
		"an arc to -1":               {state(1, arc('a', 'a', -1))},
		"an arc back":                {state(1, arc('b', 'a', 0))},
		"arcs that meet":             {state(1, arc('a', 'c', 1), arc('c', 'd', 0)), state(2)},
		"arcs in another order":      {state(1, arc('b', 'b', 1), arc('a', 'a', 1)), state(2)},
		"two arcs that are one":      {state(1, arc('a', 'a', 1), arc('b', 'b', 1)), state(2)},
		"two arcs that are one at 0": {state(1), state(2, arc(0, 0, 0), arc(1, 1, 0))},
		"wrong where nobody comes":   {state(1), state(2, arc('a', 'a', 2))},
		"wrong behind an a":          {state(0, arc('a', 'a', 1)), state(3, arc('z', 'y', 0))},
	}
}

// MachineOf is the machine of a pattern's text. A test that names a text that has none is wrong, and ends.
func MachineOf(text string) api.Machine {
	n, e, _ := pattern.Parse(text)
	m, f := dfa.Of(n, api.MaxStates)
	if e != api.OK || f != api.OK {
		panic("no machine of " + text)
	}
	return m
}

// SoundMachines are machines that dfa.Check accepts: of patterns of all kinds, and so many drawn ones.
func SoundMachines(drawnOnes int) []api.Machine {
	var l []api.Machine
	for _, text := range PatternTexts() {
		l = append(l, MachineOf(text))
	}
	s := Source(200)
	for i := range drawnOnes {
		l = append(l, s.Machine([]int{2, 6, 20}[i%3]))
	}
	return l
}

// OddMachines are machines that nobody need accept: all that are rejected, and so many drawn ones.
func OddMachines(drawnOnes int) []api.Machine {
	rejected := RejectedMachines()
	var l []api.Machine
	for _, name := range slices.Sorted(maps.Keys(rejected)) {
		l = append(l, rejected[name])
	}
	s := Source(201)
	for range drawnOnes {
		l = append(l, s.OddMachine())
	}
	return l
}

// Bytes is a text of at most so many bytes, of those by which drawn machines go and some others.
func (s *Source) Bytes(most int) string {
	var out []byte
	for range s.Below(most + 1) {
		out = append(out, "\x00\x01aabbcc\xfe\xffxyz"[s.Below(13)])
	}
	return string(out)
}

// ArcsOf is where a state goes by each byte, as arcs, made in a slow way: an arc for each byte, and then those that touch made one.
func ArcsOf(to [256]int) []api.Arc {
	var l []api.Arc
	for b, target := range to {
		if target < 0 {
			continue
		}
		if last := len(l) - 1; last >= 0 && int(l[last].Hi) == b-1 && l[last].To == target {
			l[last].Hi = uint8(b)
			continue
		}
		l = append(l, api.Arc{Lo: uint8(b), Hi: uint8(b), To: target})
	}
	return l
}

// SameMachines tells whether two machines are the same, state by state.
func SameMachines(a, b api.Machine) bool {
	return slices.EqualFunc(a, b, func(a, b api.State) bool { return a.Accept == b.Accept && slices.Equal(a.Arcs, b.Arcs) })
}

// CopyMachine is a machine in new memory.
func CopyMachine(m api.Machine) api.Machine {
	m = slices.Clone(m)
	for i := range m {
		m[i].Arcs = slices.Clone(m[i].Arcs)
	}
	return m
}

// RoomyMachine is a machine in new memory, whose lists all have more room than they use, with states and arcs beyond their ends.
func RoomyMachine(m api.Machine) api.Machine {
	states := make(api.Machine, len(m), len(m)+1)
	states[:len(m)+1][len(m)] = api.State{Accept: 5, Arcs: []api.Arc{{Lo: 'a', Hi: 'a', To: 0}}}
	for i, s := range m {
		arcs := append(slices.Clone(s.Arcs), api.Arc{Lo: 'a', Hi: 'b', To: 0}, api.Arc{Lo: 'b', Hi: 'z', To: 1})
		states[i] = api.State{Accept: s.Accept, Arcs: arcs[:len(s.Arcs)]}
	}
	return states
}

// WholeRoom is all that a roomy machine has, also beyond the ends of its lists.
func WholeRoom(m api.Machine) api.Machine {
	all := slices.Clone(m[:len(m)+1])
	for i := range m {
		all[i].Arcs = m[i].Arcs[:len(m[i].Arcs)+2]
	}
	return all
}

// SpoilArcs overwrites the whole room of a list.
func SpoilArcs(l []api.Arc) {
	l = l[:cap(l)]
	for i := range l {
		l[i] = api.Arc{Lo: 'q', Hi: 'q', To: 77}
	}
}

// SharesLists tells whether two states of a machine share memory, which spoils the machine.
func SharesLists(m api.Machine) bool {
	want := CopyMachine(m)
	for i := range m {
		SpoilArcs(m[i].Arcs)
		m[i].Arcs, want[i].Arcs = nil, nil
		if !SameMachines(m[i:], want[i:]) {
			return true
		}
	}
	return false
}

// SpoilMachine overwrites the whole room of a machine's lists.
func SpoilMachine(m api.Machine) {
	for i := range m {
		SpoilArcs(m[i].Arcs)
	}
	m = m[:cap(m)]
	for i := range m {
		m[i] = api.State{Accept: 9}
	}
}
