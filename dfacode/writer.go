package dfacode

import "homograph/api"

const (
	groupBits = 7
	// more is added to each group but a number's last one.
	more = 1 << groupBits
	// mostGroups is how many groups the greatest number has.
	mostGroups = 10
)

// appendNumbers writes numbers behind bytes, the lowest group of each first.
func appendNumbers(b []byte, numbers ...uint64) []byte {
	for _, n := range numbers {
		for n >= more {
			b = append(b, uint8(n%more)+more)
			n /= more
		}
		b = append(b, uint8(n))
	}
	return b
}

// appendState writes a state behind bytes.
func appendState(b []byte, state api.State) []byte {
	b = appendNumbers(b, state.Accept, uint64(len(state.Arcs)))
	for _, arc := range state.Arcs {
		b = append(b, arc.Lo, arc.Hi)
		b = appendNumbers(b, uint64(arc.To))
	}
	return b
}

// seal is the sum of bytes, as bytes.
func seal(b []byte) [4]byte {
	sum := Sum(b)
	return [...]byte{uint8(sum), uint8(sum >> 8), uint8(sum >> 16), uint8(sum >> 24)}
}
