package dfacode_test

import (
	"bytes"
	"math"
	"strconv"
	"testing"

	"homograph/api"
	"homograph/dfa"
	"homograph/dfacode"
	"homograph/drawn"
)

// P11.3: Put, and Get of what it tells

func TestPut(t *testing.T) {
	mustPut(t, "no states", nil, []byte("DFA1\x00\xb3\xea\xef\x46"))
	mustPut(t, "one state", api.Machine{state(0)}, []byte("DFA1\x01\x00\x00\x20\xde\xbf\x96"))
	mustPut(t, "a*", drawn.MachineOf("a*"), []byte("DFA1\x01\x01\x01aa\x00\xf4\xc5\x71\xdc"))
	mustPut(t, "a*b", drawn.MachineOf("a*b"), []byte("DFA1\x02\x00\x02aa\x00bb\x01\x01\x00\xcb\xf2\xfa\x67"))
	mustPut(t, "a number of two bytes", api.Machine{state(300, arc(0, 255, 0))}, []byte("DFA1\x01\xac\x02\x01\x00\xff\x00\xd4\x40\xab\x50"))
}

func TestPutOfSmallMachines(t *testing.T) {
	for want, m := range map[string]api.Machine{
		"DFA1\x00":                 {},
		"DFA1\x02\x00\x00\x01\x00": {state(0), state(1)},
		"DFA1\x02\x01\x00\x00\x00": {state(1), state(0)},
		"DFA1\x01\x7f\x00":         {state(127)},
		"DFA1\x01\x80\x01\x00":     {state(128)},
		"DFA1\x01\x80\x80\x80\x80\x80\x80\x80\x80\x80\x01\x00": {state(1 << 63)},
		"DFA1\x01\xff\xff\xff\xff\xff\xff\xff\xff\xff\x01\x00": {state(math.MaxUint64)},
		"DFA1\x01\x00\x01\x00\x00\x00":                         {state(0, by(0, 0))},
		"DFA1\x01\x00\x01\xff\xff\x00":                         {state(0, by(255, 0))},
		"DFA1\x01\x00\x01\x80\x90\x00":                         {state(0, arc(128, 144, 0))},
		"DFA1\x01\x05\x02\x00\x00\x00\xff\xff\x00":             {state(5, by(0, 0), by(255, 0))},
		"DFA1\x02\x00\x02ac\x00dz\x01\x06\x01az\x00":           {state(0, arc('a', 'c', 0), arc('d', 'z', 1)), state(6, arc('a', 'z', 0))},
	} {
		mustPut(t, strconv.Quote(want), m, sealed([]byte(want)))
	}
}

// mustComeBack holds that Put of a machine is what it should be, and Get of that the machine again.
func mustComeBack(t *testing.T, name string, m api.Machine) {
	t.Helper()
	want, e := putOf(m)
	got, f := dfacode.Put(m)
	if e != api.OK || f != api.OK || !bytes.Equal(got, want) {
		t.Fatalf("Put of %s of %d states isn't what it should be: %d, %d", name, len(m), e, f)
	}
	back, e := dfacode.Get(got)
	if e != api.OK || !drawn.SameMachines(back, m) {
		t.Fatalf("Get of Put of %s of %d states isn't what it was: %d", name, len(m), e)
	}
}

func TestAccepts(t *testing.T) {
	var all api.Machine
	for k := range 64 {
		for _, accept := range []uint64{1<<k - 1, 1 << k, 1<<k + 1, math.MaxUint64 - 1<<k, math.MaxUint64 << k} {
			mustComeBack(t, "one state", api.Machine{state(accept)})
			mustComeBack(t, "two states", api.Machine{state(accept, by('a', 1)), state(accept, by('b', 0))})
			all = append(all, state(accept, by('a', len(all))))
		}
	}
	mustComeBack(t, "states with all sorts of accepts", all)
}

// ring is so many states, each of which leads to so many after it, one byte each; behind the last state comes the first one.
func ring(states, arcs int) api.Machine {
	m := make(api.Machine, states)
	for i := range m {
		for b := range arcs {
			m[i].Arcs = append(m[i].Arcs, by(uint8(b), (i+b+1)%states))
		}
	}
	return m
}

func TestNumbersOfStates(t *testing.T) {
	for _, states := range []int{1, 2, 126, 127, 128, 129, 255, 256, 257, 1000, 4095, 4096} {
		mustComeBack(t, "states without arcs", make(api.Machine, states))
		mustComeBack(t, "states", ring(states, min(states, 3)-1))
		last := make(api.Machine, states)
		last[0].Arcs = []api.Arc{by('z', states-1)}
		mustComeBack(t, "an arc to the last state", last)
	}
	for _, states := range []int{4097, 4098, 5000, 16384, 70000} {
		mustNotPut(t, "too many states", make(api.Machine, states))
	}
}

func TestNumbersOfArcs(t *testing.T) {
	for _, arcs := range []int{1, 2, 126, 127, 128, 129, 254, 255, 256} {
		mustComeBack(t, "arcs", ring(300, arcs))
		mustComeBack(t, "arcs in one state of two", api.Machine{state(1), state(1, ring(2, arcs)[0].Arcs...)})
	}
	mustComeBack(t, "as many states and arcs as there may be", ring(4096, 256))
}

func TestTargets(t *testing.T) {
	for _, to := range []int{0, 1, 126, 127, 128, 129, 255, 256, 4000, 4094, 4095} {
		m := make(api.Machine, 4096)
		m[0].Arcs = []api.Arc{by('a', to)}
		m[4095].Arcs = []api.Arc{arc(0, 'a', to), arc('z', 255, to)}
		mustComeBack(t, "arcs to one state", m)
	}
	for _, to := range []int{-1, -2, math.MinInt, 4096, 4097, 16384, math.MaxInt} {
		m := make(api.Machine, 4096)
		m[7].Arcs = []api.Arc{by('a', to)}
		mustNotPut(t, "an arc to no state", m)
	}
}

func TestPutOfRejectedMachines(t *testing.T) {
	for name, m := range drawn.RejectedMachines() {
		mustNotPut(t, name, m)
	}
}

func TestSoundMachinesComeBack(t *testing.T) {
	for _, m := range drawn.SoundMachines(3000) {
		mustComeBack(t, "a sound machine", m)
	}
}

func TestOddMachines(t *testing.T) {
	accepted := 0
	for _, m := range drawn.OddMachines(20000) {
		if dfa.Check(m) != api.OK {
			mustNotPut(t, "a drawn machine", m)
			continue
		}
		mustComeBack(t, "a drawn machine", m)
		accepted++
	}
	if accepted < 1000 || accepted > 19000 {
		t.Errorf("%d machines are accepted", accepted)
	}
}

// Machines that differ have bytes that differ.
func TestBytesOfDifferentMachines(t *testing.T) {
	machines := map[string]api.Machine{}
	for _, m := range append(drawn.SoundMachines(2000), drawn.OddMachines(5000)...) {
		b, e := dfacode.Put(m)
		if e != api.OK {
			continue
		}
		if other, ok := machines[string(b)]; ok && !drawn.SameMachines(m, other) {
			t.Fatalf("%v and %v have the same bytes", m, other)
		}
		machines[string(b)] = m
		for _, changed := range neighbours(m) {
			if other, e := dfacode.Put(changed); e == api.OK && bytes.Equal(other, b) != drawn.SameMachines(changed, m) {
				t.Fatalf("%v and %v: whether they have the same bytes isn't whether they are the same", m, changed)
			}
		}
	}
	if len(machines) < 2000 {
		t.Errorf("only %d different machines", len(machines))
	}
}

// neighbours are machines that differ from another one in one thing, if at all.
func neighbours(m api.Machine) []api.Machine {
	l := []api.Machine{append(drawn.CopyMachine(m), state(0))}
	change := func(by func(api.Machine)) {
		other := drawn.CopyMachine(m)
		by(other)
		l = append(l, other)
	}
	for i := range m {
		change(func(m api.Machine) { m[i].Accept++ })
		change(func(m api.Machine) { m[i].Accept ^= 1 << 63 })
		for j := range m[i].Arcs {
			change(func(m api.Machine) { m[i].Arcs[j].To = (m[i].Arcs[j].To + 1) % len(m) })
			change(func(m api.Machine) { m[i].Arcs[j].Lo++ })
			change(func(m api.Machine) { m[i].Arcs[j].Hi-- })
			change(func(m api.Machine) { m[i].Arcs = append(m[i].Arcs[:j], m[i].Arcs[j+1:]...) })
		}
	}
	return l
}
