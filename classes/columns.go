package classes

import (
	"homograph/api"
	"homograph/dfa"
)

// column is a piece of where a byte leads from each state: its class by the states ahead of the piece, and then the targets from some states in a row. In pieces, because a machine may have any number of states, but an array has a fixed length.
type column [64]int

// columnOf is a byte's piece that begins with a state.
func columnOf(m api.Machine, from int, b, class uint8) column {
	c := column{int(class)}
	for i := range len(c) - 1 {
		// Behind the last state all bytes lead nowhere, which tells none of them apart.
		c[i+1] = dfa.Next(m, from+i, b)
	}
	return c
}

// split is classes split by the pieces that begin with a state. Bytes are gone through rising, so that the classes are in the order of their least bytes.
func split(class [256]uint8, m api.Machine, from int) [256]uint8 {
	var finer [256]uint8
	numbers := map[column]int{}
	for b := range finer {
		c := columnOf(m, from, uint8(b), class[b])
		number, ok := numbers[c]
		if !ok {
			number = len(numbers)
			numbers[c] = number
		}
		finer[b] = uint8(number)
	}
	return finer
}
