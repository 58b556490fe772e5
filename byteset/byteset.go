// Package byteset is layer 1: sets of bytes.
package byteset

import (
	"iter"
	"math/bits"

	"homograph/api"
)

const (
	byteCount = 256
	wordBits  = 64
)

// Has tells whether a byte is in a set.
func Has(s api.Set, b uint8) bool {
	return s[b/wordBits]>>(b%wordBits)&1 != 0
}

// Range is the bytes from one up to another one.
func Range(lo, hi uint8) api.Set {
	var s api.Set
	// An int counts here, because a uint8 would never pass a hi of 255.
	for b := int(lo); b <= int(hi); b++ {
		s = with(s, uint8(b))
	}
	return s
}

// Of is the bytes of a text.
func Of(s string) api.Set {
	var set api.Set
	// By index, because a range over a string would give runes.
	for i := 0; i < len(s); i++ {
		set = with(set, s[i])
	}
	return set
}

// Union is what one of them has.
func Union(l ...api.Set) api.Set {
	var u api.Set
	for _, s := range l {
		for i, w := range s {
			u[i] |= w
		}
	}
	return u
}

// Inter is what all of them have; of none all bytes.
func Inter(l ...api.Set) api.Set {
	common := Not(api.Set{})
	for _, s := range l {
		for i, w := range s {
			common[i] &= w
		}
	}
	return common
}

// Not is what a set hasn't.
func Not(s api.Set) api.Set {
	var rest api.Set
	for i, w := range s {
		rest[i] = ^w
	}
	return rest
}

// Count is how many it has.
func Count(s api.Set) int {
	n := 0
	for _, w := range s {
		n += bits.OnesCount64(w)
	}
	return n
}

// First is the lowest one from a byte on; false: none.
func First(s api.Set, from int) (uint8, bool) {
	for b := max(from, 0); b < byteCount; b = nextWord(b) {
		if w := s[b/wordBits] >> (b % wordBits); w != 0 {
			return uint8(b + bits.TrailingZeros64(w)), true
		}
	}
	return 0, false
}

// Ranges is its rows of bytes, rising: the first and the last one of each.
func Ranges(s api.Set) [][2]uint8 {
	var l [][2]uint8
	for r := range runs(s) {
		l = append(l, r)
	}
	return l
}

// Cut is the parts into which sets cut all bytes, by their lowest bytes.
func Cut(l []api.Set) []api.Set {
	var blocks []api.Set
	rest := Not(api.Set{})
	// Taking the lowest byte that is left each time gives the blocks in order, without sorting.
	for rest != (api.Set{}) {
		b, _ := First(rest, 0)
		block := blockOf(l, b)
		blocks = append(blocks, block)
		rest = Inter(rest, Not(block))
	}
	return blocks
}

// with is the set with one byte more.
func with(s api.Set, b uint8) api.Set {
	s[b/wordBits] |= 1 << (b % wordBits)
	return s
}

// nextWord is the lowest byte of the element behind that of b.
func nextWord(b int) int {
	return b - b%wordBits + wordBits
}

// runs gives the maximal runs of consecutive bytes, rising.
func runs(s api.Set) iter.Seq[[2]uint8] {
	return func(yield func([2]uint8) bool) {
		gaps := Not(s)
		lo, ok := First(s, 0)
		for ok {
			end := endOfRun(gaps, lo)
			if !yield([2]uint8{lo, uint8(end - 1)}) {
				return
			}
			lo, ok = First(s, end)
		}
	}
}

// endOfRun is the place behind the run that begins at lo: the first gap, or the end of all bytes.
func endOfRun(gaps api.Set, lo uint8) int {
	if gap, ok := First(gaps, int(lo)); ok {
		return int(gap)
	}
	return byteCount
}

// blockOf is the bytes that are in the same sets of l as b.
func blockOf(l []api.Set, b uint8) api.Set {
	block := Not(api.Set{})
	for _, s := range l {
		if !Has(s, b) {
			s = Not(s)
		}
		block = Inter(block, s)
	}
	return block
}
