package minim

// partition is states in classes, which can only be split.
type partition struct {
	order []int  // the states, those of a class side by side
	place []int  // of each state in order
	class []int  // of each state
	spans []span // of each class in order
}

// span is where a class stands: its marked states ahead of the others.
type span struct{ begin, marked, end int }

func (s span) size() int { return s.end - s.begin }

// newPartition is a partition of states, from 0 on, that are all in one class.
func newPartition(states int) *partition {
	p := &partition{class: make([]int, states), spans: []span{{end: states}}}
	for state := range states {
		p.order = append(p.order, state)
		p.place = append(p.place, state)
	}
	return p
}

// split parts the states of a list, each of which is there once, from all others.
func (p *partition) split(states []int) {
	var touched []int
	for _, state := range states {
		class := p.class[state]
		if p.spans[class].marked == p.spans[class].begin {
			touched = append(touched, class)
		}
		p.mark(state)
	}
	for _, class := range touched {
		p.part(class)
	}
}

// mark moves a state behind those of its class that are marked.
func (p *partition) mark(state int) {
	s := &p.spans[p.class[state]]
	from, other := p.place[state], p.order[s.marked]
	p.order[from], p.order[s.marked] = other, state
	p.place[other], p.place[state] = from, s.marked
	s.marked++
}

// part makes two classes of one that has marked states and others. The smaller part is the new class, so that all that is done for new classes stays little.
func (p *partition) part(class int) {
	whole := p.spans[class]
	kept, moved := span{whole.begin, whole.begin, whole.marked}, span{whole.marked, whole.marked, whole.end}
	if kept.size() < moved.size() {
		kept, moved = moved, kept
	}
	p.spans[class] = kept
	if moved.size() == 0 {
		return
	}
	for _, state := range p.order[moved.begin:moved.end] {
		p.class[state] = len(p.spans)
	}
	p.spans = append(p.spans, moved)
}

// members is the states of a class.
func (p *partition) members(class int) []int {
	s := p.spans[class]
	return p.order[s.begin:s.end]
}
