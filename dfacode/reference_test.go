package dfacode_test

import (
	"bytes"
	"encoding/binary"
	"hash/fnv"
	"slices"
	"testing"

	"homograph/api"
	"homograph/dfa"
	"homograph/dfacode"
	"homograph/drawn"
)

func state(accept uint64, arcs ...api.Arc) api.State { return api.State{Accept: accept, Arcs: arcs} }

func arc(lo, hi uint8, to int) api.Arc { return api.Arc{Lo: lo, Hi: hi, To: to} }

// by is an arc by one byte.
func by(b uint8, to int) api.Arc { return arc(b, b, to) }

// numberOf is what Number should tell.
func numberOf(n uint64) []byte { return binary.AppendUvarint(nil, n) }

// valueOf is what Value should tell: the library's number, which may be longer than necessary, held against its bytes.
func valueOf(b []byte) (uint64, int) {
	n, length := binary.Uvarint(b)
	if length <= 0 || !bytes.Equal(numberOf(n), b[:length]) {
		return 0, 0
	}
	return n, length
}

// sumOf is what Sum should tell.
func sumOf(b []byte) uint32 {
	h := fnv.New32a()
	h.Write(b)
	return h.Sum32()
}

// sealed is bytes in new memory, with their sum behind them.
func sealed(b []byte) []byte {
	return binary.LittleEndian.AppendUint32(slices.Clone(b), sumOf(b))
}

// body is the bytes of a machine without their sum, also of one that Put may not tell.
func body(m api.Machine) []byte {
	b := binary.AppendUvarint([]byte("DFA1"), uint64(len(m)))
	for _, s := range m {
		b = binary.AppendUvarint(b, s.Accept)
		b = binary.AppendUvarint(b, uint64(len(s.Arcs)))
		for _, a := range s.Arcs {
			b = binary.AppendUvarint(append(b, a.Lo, a.Hi), uint64(a.To))
		}
	}
	return b
}

// putOf is what Put should tell.
func putOf(m api.Machine) ([]byte, api.Errno) {
	if dfa.Check(m) != api.OK {
		return nil, api.ErrCode
	}
	return sealed(body(m)), api.OK
}

// input is bytes that are read without a look at whether they are in order.
type input struct{ left []byte }

func (in *input) take() (uint8, bool) {
	if len(in.left) == 0 {
		return 0, false
	}
	b := in.left[0]
	in.left = in.left[1:]
	return b, true
}

func (in *input) number() (uint64, bool) {
	n, length := binary.Uvarint(in.left)
	if length <= 0 {
		return 0, false
	}
	in.left = in.left[length:]
	return n, true
}

// readState reads a state behind others, and tells whether it was there.
func (in *input) readState(m api.Machine) (api.Machine, bool) {
	accept, _ := in.number()
	arcs, ok := in.number()
	s := state(accept)
	for range arcs {
		lo, _ := in.take()
		hi, _ := in.take()
		to, there := in.number()
		if !there {
			return nil, false
		}
		s.Arcs = append(s.Arcs, arc(lo, hi, int(to)))
	}
	return append(m, s), ok
}

// getOf is what Get should tell: some machine is read, and its bytes are held against those that there are.
func getOf(b []byte) (api.Machine, api.Errno) {
	in := &input{left: b[min(len(b), len("DFA1")):]}
	states, _ := in.number()
	var m api.Machine
	ok := true
	for uint64(len(m)) < states && ok {
		m, ok = in.readState(m)
	}
	if want, e := putOf(m); !ok || e != api.OK || !bytes.Equal(want, b) {
		return nil, api.ErrCode
	}
	return m, api.OK
}

// mustPut holds that Put of a machine is certain bytes, and that Get of these is the machine.
func mustPut(t *testing.T, name string, m api.Machine, want []byte) {
	t.Helper()
	got, e := dfacode.Put(m)
	if e != api.OK || !bytes.Equal(got, want) {
		t.Errorf("Put of %s = % x, %d, want % x", name, got, e, want)
	}
	mustGet(t, name, want, m)
}

// mustGet holds that Get of bytes is a certain machine.
func mustGet(t *testing.T, name string, b []byte, want api.Machine) {
	t.Helper()
	got, e := dfacode.Get(b)
	if e != api.OK || !drawn.SameMachines(got, want) {
		t.Errorf("Get of %s, % x = %v, %d, want %v", name, b, got, e, want)
	}
}

// mustNotPut holds that a machine has no bytes, and that those which it would have are of no machine.
func mustNotPut(t *testing.T, name string, m api.Machine) {
	t.Helper()
	if got, e := dfacode.Put(m); e != api.ErrCode || got != nil {
		t.Errorf("Put of %s = % x, %d, want %d", name, got, e, api.ErrCode)
	}
	mustNotGet(t, name, sealed(body(m)))
}

// mustNotGet holds that bytes are of no machine.
func mustNotGet(t *testing.T, name string, b []byte) {
	t.Helper()
	if got, e := dfacode.Get(b); e != api.ErrCode || got != nil {
		t.Errorf("Get of %s, % x = %v, %d, want %d", name, b, got, e, api.ErrCode)
	}
}

// mustGetTheSame holds Get of bytes against getOf, and tells whether they are of a machine.
func mustGetTheSame(t *testing.T, name string, b []byte) bool {
	t.Helper()
	want, e := getOf(b)
	if e == api.OK {
		mustGet(t, name, b, want)
		return true
	}
	mustNotGet(t, name, b)
	return false
}
