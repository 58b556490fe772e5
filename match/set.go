package match

import (
	"iter"
	"slices"
	"sort"
	"strconv"
	"strings"
)

// number is what a set may hold.
type number interface {
	~int | ~int32 | ~int64
}

// run is the numbers from lo up to hi; there are none if hi is below lo.
type run[N number] struct {
	lo, hi N
}

// set is numbers as maximal runs, rising: a pattern's ends are mostly few runs, however long the text is.
// Only add and join change a set, and only one that nobody else has yet.
type set[N number] struct {
	runs []run[N]
}

// span is the set of the numbers from lo up to hi.
func span[N number](lo, hi N) set[N] {
	var s set[N]
	s.add(lo, hi)
	return s
}

// add puts the numbers from lo up to hi into a set, and melts the runs that then touch into one.
func (s *set[N]) add(lo, hi N) {
	if hi < lo {
		return
	}
	i := s.firstReaching(lo - 1)
	j := i
	for ; j < len(s.runs) && s.runs[j].lo <= hi+1; j++ {
		lo, hi = min(lo, s.runs[j].lo), max(hi, s.runs[j].hi)
	}
	s.runs = slices.Replace(s.runs, i, j, run[N]{lo, hi})
}

// join puts all of another set into a set.
func (s *set[N]) join(other set[N]) {
	for _, r := range other.runs {
		s.add(r.lo, r.hi)
	}
}

// minus is what a set has and another one hasn't.
func (s set[N]) minus(other set[N]) set[N] {
	var rest set[N]
	for _, r := range s.runs {
		lo := r.lo
		for _, gap := range other.runs[other.firstReaching(lo):] {
			if gap.lo > r.hi {
				break
			}
			rest.add(lo, gap.lo-1)
			lo = gap.hi + 1
		}
		rest.add(lo, r.hi)
	}
	return rest
}

// empty tells whether a set has nothing.
func (s set[N]) empty() bool { return len(s.runs) == 0 }

// last is the greatest of a set; false: it is empty.
func (s set[N]) last() (N, bool) {
	if s.empty() {
		return 0, false
	}
	return s.runs[len(s.runs)-1].hi, true
}

// all gives all of a set, rising.
func (s set[N]) all() iter.Seq[N] {
	return func(yield func(N) bool) {
		for _, r := range s.runs {
			for n := r.lo; n <= r.hi; n++ {
				if !yield(n) {
					return
				}
			}
		}
	}
}

// text is the same for two sets just if they are the same, so that a map can recognize them.
func (s set[N]) text() string {
	var out strings.Builder
	for _, r := range s.runs {
		out.WriteString(strconv.FormatInt(int64(r.lo), 10))
		out.WriteByte('-')
		out.WriteString(strconv.FormatInt(int64(r.hi), 10))
		out.WriteByte(' ')
	}
	return out.String()
}

// firstReaching is the index of the first run that goes up to n or beyond it.
func (s set[N]) firstReaching(n N) int {
	return sort.Search(len(s.runs), func(i int) bool { return s.runs[i].hi >= n })
}
