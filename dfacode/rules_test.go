package dfacode_test

import (
	"bytes"
	"math"
	"slices"
	"testing"

	"homograph/api"
	"homograph/dfacode"
	"homograph/drawn"
)

// Rule 3: arguments are neither modified nor retained, and results are in new memory.

// spoil overwrites the whole room of bytes.
func spoil(b []byte) {
	b = b[:cap(b)]
	for i := range b {
		b[i] = 'q'
	}
}

func TestMachinesAreNotModified(t *testing.T) {
	for _, m := range append(drawn.SoundMachines(300), drawn.OddMachines(600)...) {
		arg, want := drawn.RoomyMachine(m), drawn.CopyMachine(drawn.WholeRoom(drawn.RoomyMachine(m)))
		b, e := dfacode.Put(arg)
		if !drawn.SameMachines(drawn.WholeRoom(arg), want) {
			t.Fatalf("Put modified %v", m)
		}
		wantBytes := slices.Clone(b)
		// Another machine in the same memory must be told as what it is.
		arg = arg[:min(len(arg), api.MaxStates)]
		for i := range arg {
			arg[i] = state(1, arc('a', 'c', i))
		}
		if !bytes.Equal(b, wantBytes) {
			t.Fatalf("Put of %v changed with its argument", m)
		}
		mustComeBack(t, "another machine", arg)
		spoil(b)
		if again, f := dfacode.Put(m); f != e || !bytes.Equal(again, wantBytes) {
			t.Fatalf("Put of %v is % x, %d, and then % x, %d", m, wantBytes, e, again, f)
		}
	}
}

// roomy is bytes in new memory, with some beyond their end, and what all of them are.
func roomy(b []byte) (arg, whole []byte) {
	whole = append(slices.Clone(b), "\x00\x01\x80\xff\x00\x00\x00\x00\x00"...)
	return slices.Clone(whole)[:len(b)], whole
}

func TestBytesAreNotModified(t *testing.T) {
	s := drawn.Source(216)
	for i, m := range append(drawn.SoundMachines(300), drawn.OddMachines(600)...) {
		b := body(m)
		if i%3 == 0 {
			b = changedBytes(&s, b)
		}
		for _, b := range [][]byte{b, sealed(b), b[:len(b)/2], numberOf(math.MaxUint64 >> s.Below(64))} {
			arg, whole := roomy(b)
			got, e := dfacode.Get(arg)
			n, length := dfacode.Value(arg)
			sum := dfacode.Sum(arg)
			if !bytes.Equal(arg[:len(whole)], whole) {
				t.Fatalf("a call modified % x", b)
			}
			want := drawn.CopyMachine(got)
			spoil(arg)
			if !drawn.SameMachines(got, want) {
				t.Fatalf("Get of % x changed with its argument", b)
			}
			drawn.SpoilMachine(got)
			again, f := dfacode.Get(b)
			if e != f || !drawn.SameMachines(again, want) {
				t.Fatalf("Get of % x is %v, %d, and then %v, %d", b, want, e, again, f)
			}
			mustValue(t, b, n, length)
			mustSum(t, string(b), sum)
		}
	}
}

// What is behind the end of bytes must not count as theirs.
func TestBytesBeyondTheEnd(t *testing.T) {
	whole := []byte("DFA1\x01\x01\x01aa\x00\xf4\xc5\x71\xdc")
	for i := range whole {
		mustNotGet(t, "bytes with more room", whole[:i])
	}
	mustGet(t, "all bytes", whole, api.Machine{state(1, by('a', 0))})
	number := []byte{172, 2}
	mustValue(t, number[:0], 0, 0)
	mustValue(t, number[:1], 0, 0)
	if got := dfacode.Sum(number[:0]); got != sumOf(nil) {
		t.Errorf("Sum of no bytes with more room = %d", got)
	}
}

func TestListsOfMachinesAreApart(t *testing.T) {
	for _, m := range append(drawn.SoundMachines(600), ring(300, 7), make(api.Machine, 300)) {
		b := mustBytes(t, m)
		got, e := dfacode.Get(b)
		if e != api.OK || drawn.SharesLists(got) {
			t.Fatalf("states of Get of Put of %v share memory, or aren't there: %d", m, e)
		}
		drawn.SpoilMachine(got)
		mustGet(t, "the same bytes again", b, m)
	}
}

func TestNumbersAreApart(t *testing.T) {
	for _, n := range []uint64{0, 1, 127, 128, 300, math.MaxUint64} {
		first, second := dfacode.Number(n), dfacode.Number(n)
		spoil(first)
		if !bytes.Equal(second, numberOf(n)) || !bytes.Equal(dfacode.Number(n), numberOf(n)) {
			t.Errorf("Number(%d) changed with an earlier result", n)
		}
	}
	first, second := mustBytes(t, nil), mustBytes(t, nil)
	spoil(first)
	if !bytes.Equal(second, mustBytes(t, nil)) {
		t.Error("the bytes of no states changed with an earlier result")
	}
}

// Where lists have no elements, it makes no difference whether they are nil.
func TestNilAndEmptyLists(t *testing.T) {
	none := mustBytes(t, nil)
	for _, m := range []api.Machine{{}, make(api.Machine, 0, 40), make(api.Machine, 3)[:0]} {
		mustPut(t, "no states", m, none)
	}
	without := mustBytes(t, api.Machine{state(1), state(2)})
	mustPut(t, "states without arcs", api.Machine{{Accept: 1, Arcs: []api.Arc{}}, {Accept: 2, Arcs: make([]api.Arc, 0, 40)}}, without)
	for _, b := range [][]byte{nil, {}, make([]byte, 0, 40), none[:0]} {
		mustNotGet(t, "no bytes", b)
		mustValue(t, b, 0, 0)
		mustSum(t, string(b), 2166136261)
	}
	if m, _ := dfacode.Get(none); m != nil {
		t.Errorf("no states: %v", m)
	}
	if m, _ := dfacode.Get(without); len(m) != 2 || m[0].Arcs != nil || m[1].Arcs != nil {
		t.Errorf("states without arcs: %v", m)
	}
}
