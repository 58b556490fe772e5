package match

import (
	"slices"
	"testing"
)

// listed is all of a set, and holds that it is kept as maximal runs.
func listed[N number](t *testing.T, s set[N]) []N {
	t.Helper()
	for i, r := range s.runs {
		if r.hi < r.lo || i > 0 && r.lo <= s.runs[i-1].hi+1 {
			t.Fatalf("runs %v", s.runs)
		}
	}
	return slices.Collect(s.all())
}

// masked is the set of the bits of a number, and the same as a list; the order in which they are added hangs on another number.
func masked[N number](mask, order int) (set[N], []N) {
	var s set[N]
	var l []N
	for i := range 8 {
		if at := (i*(2*order+1) + order) % 8; mask>>at&1 == 1 {
			s.add(N(at), N(at))
		}
		if mask>>i&1 == 1 {
			l = append(l, N(i))
		}
	}
	return s, l
}

func trySets[N number](t *testing.T) {
	for a := range 256 {
		first, firstList := masked[N](a, a%4)
		if got := listed(t, first); !slices.Equal(got, firstList) {
			t.Fatalf("%v instead of %v", got, firstList)
		}
		last, ok := first.last()
		if first.empty() != (a == 0) || ok != (a != 0) || ok && last != firstList[len(firstList)-1] || !ok && last != 0 {
			t.Fatalf("the last of %v: %d, %t", firstList, last, ok)
		}
		for b := range 256 {
			second, secondList := masked[N](b, b%4)
			_, union := masked[N](a|b, 0)
			_, rest := masked[N](a&^b, 0)
			if got := listed(t, first.minus(second)); !slices.Equal(got, rest) {
				t.Fatalf("%v minus %v: %v", firstList, secondList, got)
			}
			if (first.text() == second.text()) != (a == b) {
				t.Fatalf("the texts of %v and %v: %q and %q", firstList, secondList, first.text(), second.text())
			}
			var joined set[N]
			joined.join(first)
			joined.join(second)
			if got := listed(t, joined); !slices.Equal(got, union) {
				t.Fatalf("%v and %v: %v", firstList, secondList, got)
			}
			// A set that is joined to another one shares no memory with it.
			if !slices.Equal(listed(t, first), firstList) || !slices.Equal(listed(t, second), secondList) {
				t.Fatalf("%v or %v changed", firstList, secondList)
			}
		}
	}
}

func TestSets(t *testing.T) {
	trySets[int](t)
	trySets[int32](t)
	trySets[int64](t)
}

func TestSpans(t *testing.T) {
	for lo := range 6 {
		for hi := range 6 {
			var want []int
			for n := lo; n <= hi; n++ {
				want = append(want, n)
			}
			s := span(lo, hi)
			if got := listed(t, s); !slices.Equal(got, want) || s.empty() != (hi < lo) {
				t.Errorf("span(%d, %d) = %v", lo, hi, got)
			}
		}
	}
}

func TestAllCanBeLeft(t *testing.T) {
	s := span(2, 4)
	s.add(7, 9)
	for stop := 2; stop < 9; stop++ {
		var l []int
		for n := range s.all() {
			if n > stop {
				break
			}
			l = append(l, n)
		}
		if len(l) == 0 || l[len(l)-1] > stop {
			t.Errorf("up to %d: %v", stop, l)
		}
	}
}
