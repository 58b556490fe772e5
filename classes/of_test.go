package classes_test

import (
	"math"
	"slices"
	"testing"

	"homograph/api"
	"homograph/classes"
	"homograph/drawn"
)

// P10.1: Of

// mustClass holds what Of tells. The classes are numbered without gaps, so that there is one more than the greatest number.
func mustClass(t *testing.T, name string, m api.Machine, want [256]uint8) {
	t.Helper()
	count := int(slices.Max(want[:])) + 1
	if got, n := classes.Of(m); got != want || n != count {
		t.Errorf("Of %s = %v, %d, want %v, %d", name, got, n, want, count)
	}
}

func TestClasses(t *testing.T) {
	for name, c := range map[string]struct {
		m    api.Machine
		want [256]uint8
	}{
		"[a-c]x":                       {drawn.MachineOf("[a-c]x"), classed(0, arc('a', 'c', 1), by('x', 2))},
		"a*":                           {drawn.MachineOf("a*"), classed(0, by('a', 1))},
		"if|[a-z]+":                    {drawn.MachineOf("if|[a-z]+"), classed(0, arc('a', 'z', 1), by('f', 2), by('i', 3))},
		"(a|c|e)b":                     {drawn.MachineOf("(a|c|e)b"), classed(0, by('a', 1), by('b', 2), by('c', 1), by('e', 1))},
		"ba":                           {drawn.MachineOf("ba"), classed(0, by('a', 1), by('b', 2))},
		"all bytes ~a":                 {drawn.MachineOf("~a"), classed(0, by('a', 1))},
		"byte 0":                       {drawn.MachineOf("\\x00"), classed(1, by(0, 0))},
		"byte 255":                     {drawn.MachineOf("\\xff"), classed(0, by(255, 1))},
		"bytes 0 and 255 alike":        {drawn.MachineOf("[\\x00\\xff]"), classed(1, by(0, 0), by(255, 0))},
		"bytes 0 and 255, not alike":   {drawn.MachineOf("\\x00\\xff"), classed(1, by(0, 0), by(255, 2))},
		"all but bytes 0 and 255":      {drawn.MachineOf("[\\x01-\\xfe]"), classed(1, by(0, 0), by(255, 0))},
		"halves":                       {api.Machine{state(0, arc(0, 127, 5), arc(128, 255, 0))}, classed(0, arc(128, 255, 1))},
		"halves, only the second goes": {api.Machine{state(0, arc(128, 255, 0))}, classed(0, arc(128, 255, 1))},
		"halves, only the first goes":  {api.Machine{state(0, arc(0, 127, 0))}, classed(0, arc(128, 255, 1))},
		"falling targets":              {api.Machine{state(0, by('a', 9), by('b', 5), by('c', 1), by('d', 5))}, classed(0, by('a', 1), by('b', 2), by('c', 3), by('d', 2))},
		"arcs that stand backward":     {api.Machine{state(0, by('z', 0), by('m', 1), by('a', 2))}, classed(0, by('a', 1), by('m', 2), by('z', 3))},
		"byte 0 among others":          {api.Machine{state(0, by(0, 0), by('a', 1), by('b', 0))}, classed(1, by(0, 0), by('a', 2), by('b', 0))},
		"only the last state":          {api.Machine{state(0), state(0), state(0, by('q', 0))}, classed(0, by('q', 1))},
		"a state that isn't reached":   {api.Machine{state(1, by('a', 0)), state(0, by('b', 0))}, classed(0, by('a', 1), by('b', 2))},
		"states that end the same":     {api.Machine{state(0, by('a', 1), by('b', 2)), state(1), state(1)}, classed(0, by('a', 1), by('b', 2))},
		"two states that overlap":      {api.Machine{state(0, arc('a', 'm', 0)), state(0, arc('g', 'z', 0))}, classed(0, arc('a', 'f', 1), arc('g', 'm', 2), arc('n', 'z', 3))},
		"two states, alike in one":     {api.Machine{state(0, arc('a', 'c', 1)), state(0, by('a', 0), by('b', 0), by('c', 1))}, classed(0, arc('a', 'b', 1), by('c', 2))},
		"two states that trade places": {api.Machine{state(0, by('a', 0), by('b', 1)), state(0, by('a', 1), by('b', 0))}, classed(0, by('a', 1), by('b', 2))},
	} {
		mustClass(t, name, c.m, c.want)
	}
}

func TestSingleClass(t *testing.T) {
	for name, m := range map[string]api.Machine{
		"no states": nil, "no states, not nil": {}, "no arcs": {state(0)}, "an end without arcs": {state(math.MaxUint64)}, "many states without arcs": make(api.Machine, 300), "arcs that are no list": {{Arcs: []api.Arc{}}},
		"all bytes": {state(0, arc(0, 255, 0))}, "all bytes in several states": {state(1, arc(0, 255, 1)), state(2, arc(0, 255, 0)), state(3)}, "all bytes to no state": {state(0, arc(0, 255, 7))}, "all bytes, in two arcs": {state(0, arc(0, 99, 0), arc(100, 255, 0))},
		// Next tells -1 where an arc leads to -1, and where there is none.
		"an arc to -1": {state(0, by('a', -1))}, "an arc that is turned round": {state(0, arc('b', 'a', 0), arc(255, 0, 0))},
	} {
		mustClass(t, name, m, [256]uint8{})
	}
}

// Of machines that dfa.Check rejects, the first arc counts, and numbers that are no states are told apart as well.
func TestClassesOfMachinesThatMayNotBe(t *testing.T) {
	for name, c := range map[string]struct {
		m    api.Machine
		want [256]uint8
	}{
		"the second of two arcs that overlap": {api.Machine{state(0, arc('a', 'c', 1), arc('b', 'd', 0))}, classed(0, arc('a', 'c', 1), by('d', 2))},
		"an arc inside another one":           {api.Machine{state(0, by('b', 1), arc('a', 'c', 0))}, classed(0, arc('a', 'c', 1), by('b', 2))},
		"an arc that is hidden":               {api.Machine{state(0, arc('a', 'c', 0), by('b', 1))}, classed(0, arc('a', 'c', 1))},
		"an arc to -1 ahead of others":        {api.Machine{state(0, by('b', -1), arc('a', 'c', 0))}, classed(0, by('a', 1), by('c', 1))},
		"arcs that could be one":              {api.Machine{state(0, by('a', 0), by('b', 0))}, classed(0, arc('a', 'b', 1))},
		"numbers below -1":                    {api.Machine{state(0, by('a', -2), by('b', -1), by('c', -3), by('d', -2))}, classed(0, by('a', 1), by('c', 2), by('d', 1))},
		"numbers that are no states":          {api.Machine{state(0, by('a', 1), by('b', 2), by('c', 1))}, classed(0, by('a', 1), by('b', 2), by('c', 1))},
		"very large and very small numbers":   {api.Machine{state(0, by('a', math.MaxInt), by('b', math.MinInt), by('c', math.MaxInt-1), by('d', math.MinInt), by('e', 1<<32), by('f', 0))}, classed(0, by('a', 1), by('b', 2), by('c', 3), by('d', 2), by('e', 4), by('f', 5))},
		"numbers that are 256 apart":          {api.Machine{state(0, by('a', 1), by('b', 257), by('c', 513), by('d', 1<<16+1))}, classed(0, by('a', 1), by('b', 2), by('c', 3), by('d', 4))},
		"an arc that is turned round":         {api.Machine{state(0, arc('c', 'a', 1), by('b', 0))}, classed(0, by('b', 1))},
	} {
		mustClass(t, name, c.m, c.want)
	}
}

// One byte alone, in one state alone, is a class by itself, also where the machine is large.
func TestOneByteInOneState(t *testing.T) {
	bytes := []uint8{0, 1, 'a', 127, 128, 254, 255}
	for _, count := range []int{1, 2, 15, 16, 17, 31, 32, 33, 62, 63, 64, 65, 66, 100, 125, 126, 127, 128, 129, 189, 190, 255, 256, 257, 300} {
		for _, at := range []int{0, 1, count / 2, count - 2, count - 1} {
			if at < 0 || at >= count {
				continue
			}
			for _, b := range bytes {
				m := make(api.Machine, count)
				for i := range m {
					m[i].Arcs = []api.Arc{arc(0, 255, (i+1)%count)}
				}
				want := classed(0, by(b, 1))
				if b == 0 {
					want = classed(1, by(0, 0))
				}
				m[at].Arcs = []api.Arc{by(b, count-1-at), arc(0, 255, count+5)}
				mustClass(t, "one byte that leads elsewhere", m, want)
				m[at].Arcs = []api.Arc{by(b, at)}
				mustClass(t, "one byte that leads somewhere", m, want)
				m[at].Arcs = []api.Arc{by(b, -1), arc(0, 255, 0)}
				mustClass(t, "one byte that leads nowhere", m, want)
			}
		}
	}
	for at := range 200 {
		m := make(api.Machine, 200)
		m[at].Arcs = []api.Arc{by('a', 0)}
		mustClass(t, "one byte in one of many states", m, classed(0, by('a', 1)))
	}
}

func TestEachByteAlone(t *testing.T) {
	for b := range 256 {
		want := classed(0, by(uint8(b), 1))
		if b == 0 {
			want = classed(1, by(0, 0))
		}
		mustClass(t, "one byte", api.Machine{state(0, by(uint8(b), 0))}, want)
		mustClass(t, "all bytes but one", api.Machine{state(0), state(0, by(uint8(b), -1), arc(0, 255, 0))}, want)
	}
}

// identity is a class for each byte, with the same number.
func identity() [256]uint8 {
	var class [256]uint8
	for b := range class {
		class[b] = uint8(b)
	}
	return class
}

// bitStates are eight states that each tell one bit of a byte, so many states apart.
func bitStates(apart int) api.Machine {
	m := make(api.Machine, 7*apart+1)
	for k := range 8 {
		for b := range 256 {
			m[k*apart].Arcs = append(m[k*apart].Arcs, by(uint8(b), b>>k&1))
		}
	}
	return m
}

func Test256Classes(t *testing.T) {
	var rising, falling, fifteens api.State
	m := make(api.Machine, 16)
	for b := range 256 {
		rising.Arcs = append(rising.Arcs, by(uint8(b), b))
		falling.Arcs = append(falling.Arcs, by(uint8(b), 255-b))
		m[3].Arcs = append(m[3].Arcs, by(uint8(b), b/16))
		m[12].Arcs = append(m[12].Arcs, by(uint8(b), b%16))
		if b > 0 {
			fifteens.Arcs = append(fifteens.Arcs, by(uint8(b), b))
		}
	}
	mustClass(t, "a state that goes by each byte to another one", api.Machine{rising}, identity())
	mustClass(t, "a state that goes by each byte to another one, falling", api.Machine{state(0), falling}, identity())
	mustClass(t, "a state that goes by all bytes but 0 to another one each", api.Machine{fifteens}, identity())
	mustClass(t, "two states that tell half a byte each", m, identity())
	for _, apart := range []int{1, 2, 8, 9, 31, 32, 62, 63, 64, 65, 100, 500} {
		mustClass(t, "eight states that tell a bit each", bitStates(apart), identity())
	}
}

// Each number of classes.
func TestNumbersOfClasses(t *testing.T) {
	for count := 1; count <= 256; count++ {
		var low, high, wrapped api.State
		var classLow, classHigh, classWrapped [256]uint8
		for b := range 256 {
			classLow[b], classHigh[b], classWrapped[b] = uint8(min(b, count-1)), uint8(max(0, b-256+count)), uint8(b%count)
			low.Arcs = append(low.Arcs, by(uint8(b), 1000-min(b, count-1)))
			high.Arcs = append(high.Arcs, by(uint8(b), max(0, b-256+count)))
			wrapped.Arcs = append(wrapped.Arcs, by(uint8(b), b%count*7%257))
		}
		mustClass(t, "the last bytes alike", api.Machine{low}, classLow)
		mustClass(t, "the first bytes alike", api.Machine{high}, classHigh)
		mustClass(t, "bytes that are so far apart alike", api.Machine{wrapped}, classWrapped)
	}
}

// There may be any number of states.
func TestManyStates(t *testing.T) {
	for _, count := range []int{4095, 4096, 4097, 20000} {
		m := make(api.Machine, count)
		mustClass(t, "states without arcs", m, [256]uint8{})
		for i := range m {
			m[i].Arcs = []api.Arc{arc('a', 'z', (i+1)%count)}
		}
		mustClass(t, "a ring", m, classed(0, arc('a', 'z', 1)))
		m[count-1].Arcs = []api.Arc{arc('a', 'y', 0), by('z', 1)}
		mustClass(t, "a ring that tells z in its last state", m, classed(0, arc('a', 'y', 1), by('z', 2)))
		m[count/2].Arcs = []api.Arc{by('b', 0), arc('a', 'z', 5)}
		mustClass(t, "a ring that tells b in its middle, too", m, classed(0, arc('a', 'y', 1), by('b', 2), by('z', 3)))
	}
	large := drawn.MachineOf("[ab]*a[ab]{11}")
	if len(large) != 4096 {
		t.Errorf("%d states", len(large))
	}
	mustClass(t, "[ab]*a[ab]{11}", large, classed(0, by('a', 1), by('b', 2)))
}

func TestClassesOfDrawnMachines(t *testing.T) {
	few, many := 0, 0
	for _, m := range append(drawn.SoundMachines(400), drawn.OddMachines(2000)...) {
		want, lows := classesOf(m)
		mustClass(t, "a drawn machine", m, want)
		if t.Failed() {
			t.Fatalf("wrong with %v", m)
		}
		if len(lows) < 4 {
			few++
		}
		if len(lows) > 8 {
			many++
		}
	}
	if few < 300 || many < 150 {
		t.Errorf("%d machines have few classes, %d have many", few, many)
	}
}

// Two bytes are in one class if and only if they lead to the same from each state.
func TestPairsOfBytes(t *testing.T) {
	for _, m := range append(drawn.SoundMachines(60), drawn.OddMachines(300)...) {
		class, count := classes.Of(m)
		var seen [256]bool
		for b := range 256 {
			seen[class[b]] = true
			for a := range b {
				if (class[a] == class[b]) != alike(m, uint8(a), uint8(b)) {
					t.Fatalf("bytes %d and %d of %v: classes %d and %d", a, b, m, class[a], class[b])
				}
			}
		}
		if n := slices.Index(append(seen[:], false), false); n != count || slices.Contains(seen[n:], true) {
			t.Fatalf("Of %v tells %d classes", m, count)
		}
	}
}

// P10.1: Lows

func mustHaveLows(t *testing.T, name string, class [256]uint8, want ...uint8) {
	t.Helper()
	if got := classes.Lows(class); !slices.Equal(got, want) {
		t.Errorf("Lows of %s = %v, want %v", name, got, want)
	}
}

func TestLows(t *testing.T) {
	mustHaveLows(t, "one class", classed(0), 0)
	mustHaveLows(t, "[a-c]x", classed(0, arc('a', 'c', 1), by('x', 2)), 0, 'a', 'x')
	mustHaveLows(t, "byte 0 apart", classed(1, by(0, 0)), 0, 1)
	mustHaveLows(t, "byte 255 apart", classed(0, by(255, 1)), 0, 255)
	mustHaveLows(t, "byte 0 apart, as the second class", classed(0, by(0, 1)), 1, 0)
	mustHaveLows(t, "byte 255 apart, as the first class", classed(1, by(255, 0)), 255, 0)
	mustHaveLows(t, "a falling order", classed(3, arc('a', 'c', 2), arc('d', 'f', 1), by('x', 0)), 'x', 'd', 'a', 0)
	mustHaveLows(t, "classes in two parts", classed(0, by('a', 1), by('b', 2), by('c', 1), by('d', 2)), 0, 'a', 'b')
	mustHaveLows(t, "bytes 0 and 255 in one class", classed(0, by(0, 1), by(255, 1)), 1, 0)
}

func TestLowsOfClassesThatDoNotOccur(t *testing.T) {
	mustHaveLows(t, "class 2 alone", classed(2), 0, 0, 0)
	mustHaveLows(t, "no class 1", classed(0, by('a', 2)), 0, 0, 'a')
	mustHaveLows(t, "no class 0", classed(1, by('a', 2)), 0, 0, 'a')
	mustHaveLows(t, "no class 0 nor 2", classed(3, by(0, 4), by('a', 1), by(255, 6)), 0, 'a', 0, 1, 0, 0, 255)
	last := slices.Repeat([]uint8{0}, 256)
	mustHaveLows(t, "class 255 alone", classed(255), last...)
	last[255] = 255
	mustHaveLows(t, "classes 0 and 255", classed(0, by(255, 255)), last...)
	last[0], last[255], last[7] = 1, 0, 'b'
	mustHaveLows(t, "classes 0, 7 and 255", classed(0, by(0, 255), by('b', 7)), last...)
	mustHaveLows(t, "classes 0 and 254", classed(254, arc('a', 255, 0)), append([]uint8{'a'}, slices.Repeat([]uint8{0}, 254)...)...)
}

func TestLowsOf256Classes(t *testing.T) {
	class := identity()
	mustHaveLows(t, "rising classes", class, class[:]...)
	slices.Reverse(class[:])
	mustHaveLows(t, "falling classes", class, class[:]...)
	// Where each class has one byte, its least byte turns the order round.
	s := drawn.Source(202)
	for range 200 {
		class := identity()
		for b := range class {
			other := s.Below(b + 1)
			class[b], class[other] = class[other], class[b]
		}
		var want [256]uint8
		for b, k := range class {
			want[k] = uint8(b)
		}
		mustHaveLows(t, "classes in any order", class, want[:]...)
	}
}

func TestLowsOfDrawnClasses(t *testing.T) {
	s := drawn.Source(203)
	for range 2000 {
		class := drawnClass(&s)
		mustHaveLows(t, "drawn classes", class, lowsOf(class)...)
	}
	for _, m := range append(drawn.SoundMachines(200), drawn.OddMachines(500)...) {
		class, count := classes.Of(m)
		_, lows := classesOf(m)
		mustHaveLows(t, "a machine's classes", class, lows...)
		if len(lows) != count || !slices.IsSorted(lows) || lows[0] != 0 {
			t.Fatalf("the least bytes of %d classes are %v", count, lows)
		}
	}
}
