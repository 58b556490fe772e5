package pattern

// unlimited is the Max of a repetition without upper limit.
const unlimited = -1

// times is how often a repetition has its Kid.
type times struct{ least, most int }

// operators are the repetition operators of one byte, each with what it stands for.
func operators() map[byte]times {
	return map[byte]times{
		'*': {0, unlimited},
		'+': {1, unlimited},
		'?': {0, 1},
	}
}

// operatorsByTimes are the same operators, found by what they stand for.
func operatorsByTimes() map[times]byte {
	m := map[times]byte{}
	for op, t := range operators() {
		m[t] = op
	}
	return m
}
