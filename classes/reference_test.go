package classes_test

import (
	"math"
	"slices"

	"homograph/api"
	"homograph/dfa"
	"homograph/drawn"
)

func state(accept uint64, arcs ...api.Arc) api.State { return api.State{Accept: accept, Arcs: arcs} }

func arc(lo, hi uint8, to int) api.Arc { return api.Arc{Lo: lo, Hi: hi, To: to} }

// by is an arc by one byte.
func by(b uint8, to int) api.Arc { return arc(b, b, to) }

// classed is one class for all bytes but those of arcs, whose classes are where these lead.
func classed(other uint8, arcs ...api.Arc) [256]uint8 {
	var class [256]uint8
	for b := range class {
		class[b] = other
		for _, a := range arcs {
			if int(a.Lo) <= b && b <= int(a.Hi) {
				class[b] = uint8(a.To)
			}
		}
	}
	return class
}

// alike tells whether two bytes lead to the same from each state.
func alike(m api.Machine, a, b uint8) bool {
	for state := range m {
		if dfa.Next(m, state, a) != dfa.Next(m, state, b) {
			return false
		}
	}
	return true
}

// classesOf is what Of should tell, with the least byte of each class: each byte is held against the least bytes so far, one by one.
func classesOf(m api.Machine) ([256]uint8, []uint8) {
	var class [256]uint8
	var lows []uint8
	for b := range class {
		k := slices.IndexFunc(lows, func(low uint8) bool { return alike(m, low, uint8(b)) })
		if k < 0 {
			k = len(lows)
			lows = append(lows, uint8(b))
		}
		class[b] = uint8(k)
	}
	return class, lows
}

// lowsOf is what Lows should tell: for each class all bytes are looked at.
func lowsOf(class [256]uint8) []uint8 {
	var lows []uint8
	for k := range 256 {
		rest := class[:]
		if !slices.ContainsFunc(rest, func(c uint8) bool { return int(c) >= k }) {
			break
		}
		lows = append(lows, uint8(max(0, slices.Index(rest, uint8(k)))))
	}
	return lows
}

// tableOf is what Table should tell.
func tableOf(m api.Machine) [][]int {
	var table [][]int
	_, lows := classesOf(m)
	for state := range m {
		var row []int
		for _, low := range lows {
			row = append(row, dfa.Next(m, state, low))
		}
		table = append(table, row)
	}
	return table
}

// runOf is what Run should tell, from the text's end to its beginning: the row ahead of the last byte comes first.
func runOf(class [256]uint8, table [][]int, s string) int {
	if len(table) == 0 {
		return -1
	}
	if s == "" {
		return 0
	}
	row := runOf(class, table, s[:len(s)-1])
	if row < 0 || row >= len(table) {
		return -1
	}
	k := int(class[s[len(s)-1]])
	if k >= len(table[row]) || table[row][k] < 0 {
		return -1
	}
	return table[row][k]
}

// backOf is what Back should tell, with arcs that are made in a slow way.
func backOf(class [256]uint8, table [][]int, ends []uint64) api.Machine {
	var m api.Machine
	for i, row := range table {
		var to [256]int
		for b, k := range class {
			to[b] = -1
			if int(k) < len(row) && row[k] >= 0 && row[k] < len(table) {
				to[b] = row[k]
			}
		}
		s := state(0, drawn.ArcsOf(to)...)
		if i < len(ends) {
			s.Accept = ends[i]
		}
		m = append(m, s)
	}
	return m
}

func sameTables(a, b [][]int) bool { return slices.EqualFunc(a, b, slices.Equal[[]int]) }

func copyTable(table [][]int) [][]int {
	table = slices.Clone(table)
	for i := range table {
		table[i] = slices.Clone(table[i])
	}
	return table
}

func endsOf(m api.Machine) []uint64 {
	var ends []uint64
	for _, s := range m {
		ends = append(ends, s.Accept)
	}
	return ends
}

// drawnClass is a class of each byte as a caller may make it: in any order, with gaps, few or many.
func drawnClass(s *drawn.Source) [256]uint8 {
	var class [256]uint8
	first, many := s.Below(256), []int{1, 2, 4, 8, 256}[s.Below(5)]
	for b := range class {
		class[b] = uint8(first + s.Below(many))
	}
	// The classes of the bytes of drawn texts are low, so that rows need few elements.
	for _, b := range []byte("\x00\x01abc\xfe\xffxyz") {
		if s.Below(4) > 0 {
			class[b] = uint8(s.Below(5))
		}
	}
	return class
}

// drawnTable is a table as a caller may make it, with rows of different lengths and elements of all sorts.
func drawnTable(s *drawn.Source) [][]int {
	var table [][]int
	for range s.Below(6) {
		row := []int{}
		for range []int{0, 2, 5, 5, 5, 7, 256, 300}[s.Below(8)] {
			row = append(row, []int{0, 1, 2, 3, 0, 1, 2, 3, 4, 5, 6, 4096, math.MaxInt, -1, -2, math.MinInt}[s.Below(16)])
		}
		table = append(table, row)
	}
	return table
}
