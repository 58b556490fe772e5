package minim

// sames is numbers in groups of those that are held to be the same.
type sames struct {
	above []int // a number of the same group, nearer to its head; a head stands above itself
}

// newSames is so many numbers, from 0 on, each by itself.
func newSames(count int) *sames {
	s := &sames{}
	for n := range count {
		s.above = append(s.above, n)
	}
	return s
}

// head is the number that stands for a group.
func (s *sames) head(n int) int {
	for s.above[n] != n {
		// Half of the way is cut off, so that it is short next time.
		s.above[n] = s.above[s.above[n]]
		n = s.above[n]
	}
	return n
}

// join makes one group of those of two numbers, and tells whether they were two.
func (s *sames) join(a, b int) bool {
	a, b = s.head(a), s.head(b)
	s.above[a] = b
	return a != b
}
