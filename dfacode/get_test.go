package dfacode_test

import (
	"bytes"
	"encoding/binary"
	"math"
	"slices"
	"testing"

	"homograph/api"
	"homograph/dfa"
	"homograph/dfacode"
	"homograph/drawn"
)

// P11.3: Get, of bytes that Put doesn't tell. But where a test is about the sum, each of them has the right one.

// mustNotRead holds that bytes between the head and the right sum are of no machine.
func mustNotRead(t *testing.T, name, between string) {
	t.Helper()
	mustNotGet(t, name, sealed([]byte("DFA1"+between)))
}

func mustRead(t *testing.T, name, between string, want ...api.State) {
	t.Helper()
	mustGet(t, name, sealed([]byte("DFA1"+between)), want)
}

func TestGet(t *testing.T) {
	mustGet(t, "no states", []byte("DFA1\x00\xb3\xea\xef\x46"), nil)
	mustGet(t, "a*", []byte("DFA1\x01\x01\x01aa\x00\xf4\xc5\x71\xdc"), api.Machine{state(1, by('a', 0))})
	mustNotGet(t, "a sum in another order", []byte("DFA1\x00\x46\xef\xea\xb3"))
	mustRead(t, "two states", "\x02\x00\x01az\x01\xac\x02\x00", state(0, arc('a', 'z', 1)), state(300))
}

func TestGetOfFewBytes(t *testing.T) {
	mustNotGet(t, "nil", nil)
	for _, s := range []string{"", "D", "DFA", "DFA1", "DFA1\x00", "DFA1\x00\xb3", "DFA1\x00\xb3\xea\xef", "\x00\x00\x00\x00", "\x00\x00\x00\x00\x00"} {
		mustNotGet(t, "few bytes", []byte(s))
	}
	for _, s := range []string{"", "D", "DFA", "DFA1"} {
		mustNotGet(t, "few bytes and their sum", sealed([]byte(s)))
	}
	for _, s := range drawn.Texts(allBytes(), 1) {
		mustNotGet(t, "one byte and its sum", sealed([]byte(s)))
		if s != "\x00" {
			mustNotRead(t, "one byte between the head and the sum", s)
		}
	}
	mustNotRead(t, "no number of states", "")
}

func TestGetOfOtherFirstBytes(t *testing.T) {
	for _, head := range []string{"", "DFA", "DFA0", "DFA2", "DFA\x01", "dfa1", "AFD1", "1AFD", " DFA1", "DFA1 ", "DFA11", "DDFA1", "\x00DFA1", "\x00\x00\x00\x00", "LALR"} {
		for _, rest := range []string{"\x00", "\x01\x00\x00", "\x01\x01\x01aa\x00"} {
			mustNotGet(t, "bytes behind "+head, sealed([]byte(head+rest)))
		}
	}
	for i := range 4 {
		for b := range 256 {
			other := []byte("DFA1\x00")
			if other[i] == uint8(b) {
				continue
			}
			other[i] = uint8(b)
			mustNotGet(t, "another head", sealed(other))
		}
	}
}

func TestGetOfMoreThanThereIs(t *testing.T) {
	for _, n := range []uint64{1, 2, 127, 128, 4095, 4096, 4097, 1 << 14, 1 << 31, 1 << 32, 1 << 40, 1<<63 - 1, 1 << 63, 1<<63 + 1, math.MaxUint64 - 1, math.MaxUint64} {
		number := string(numberOf(n))
		mustNotRead(t, "states of which none is there", number)
		mustNotRead(t, "states of which one breaks off", number+"\x00")
		mustNotRead(t, "states of which an arc breaks off", number+"\x00\x01ab")
		mustNotRead(t, "arcs of which none is there", "\x01\x00"+number)
		mustNotRead(t, "arcs of which one breaks off", "\x01\x00"+number+"a")
		mustNotRead(t, "arcs of which one breaks off", "\x01\x00"+number+"ab")
		mustNotRead(t, "arcs of which one breaks off within its To", "\x01\x00"+number+"ab\x80")
		mustNotRead(t, "arcs in the second of two states", "\x02\x00\x00\x00"+number)
		if n > 1 {
			mustNotRead(t, "states of which one is there", number+"\x00\x00")
			mustNotRead(t, "arcs of which one is there", "\x01\x00"+number+"aa\x00")
		}
	}
	// A number that is 1 or 0 in fewer bits than it has.
	for _, n := range []uint64{1 << 8, 1 << 16, 1 << 32, 1 << 63} {
		mustNotRead(t, "no states, as it seems", string(numberOf(n)))
		mustNotRead(t, "one state, as it seems", string(numberOf(n+1))+"\x00\x00")
		mustNotRead(t, "no arcs, as it seems", "\x01\x00"+string(numberOf(n)))
		mustNotRead(t, "one arc, as it seems", "\x01\x00"+string(numberOf(n+1))+"aa\x00")
	}
}

func TestGetOfFewerThanThereAre(t *testing.T) {
	mustNotRead(t, "no states, but bytes", "\x00\x00")
	mustNotRead(t, "no states, but one", "\x00\x00\x00")
	mustNotRead(t, "one state, but two", "\x01\x00\x00\x00\x00")
	mustNotRead(t, "no arcs, but one", "\x01\x00\x00aa\x00")
	mustNotRead(t, "one arc, but two", "\x01\x00\x01aa\x00cc\x00")
	mustNotRead(t, "a machine and another one", "\x00DFA1\x00")
	mustNotGet(t, "a machine, its sum and both again", sealed(sealed([]byte("DFA1\x00"))))
}

func TestGetOfNumbersLongerThanNecessary(t *testing.T) {
	mustRead(t, "as long as necessary", "\x01\x05\x01ab\x00", state(5, arc('a', 'b', 0)))
	for _, zero := range []string{"\x80\x00", "\x80\x80\x00", "\x80\x80\x80\x80\x80\x80\x80\x80\x80\x00", "\x80\x80\x80\x80\x80\x80\x80\x80\x80\x80\x00"} {
		long := zero[1:]
		mustNotRead(t, "a number of states of 0", zero)
		mustNotRead(t, "a number of states of 1", "\x81"+long+"\x05\x01ab\x00")
		mustNotRead(t, "an accept", "\x01\x85"+long+"\x01ab\x00")
		mustNotRead(t, "an accept of 0", "\x01"+zero+"\x01ab\x00")
		mustNotRead(t, "a number of arcs of 1", "\x01\x05\x81"+long+"ab\x00")
		mustNotRead(t, "a number of arcs of 0", "\x01\x05"+zero)
		mustNotRead(t, "a To", "\x01\x05\x01ab"+zero)
	}
	mustNotRead(t, "an accept of two bytes in three", "\x01\xac\x82\x00\x00")
}

func TestGetOfNumbersAboveTheGreatest(t *testing.T) {
	const most = "\xff\xff\xff\xff\xff\xff\xff\xff\xff\x01"
	mustRead(t, "the greatest accept", "\x01"+most+"\x00", state(math.MaxUint64))
	for _, above := range []string{"\x80\x80\x80\x80\x80\x80\x80\x80\x80\x02", "\xff\xff\xff\xff\xff\xff\xff\xff\xff\x03", "\x80\x80\x80\x80\x80\x80\x80\x80\x80\x80\x01", "\xff\xff\xff\xff\xff\xff\xff\xff\xff\xff\x01"} {
		mustNotRead(t, "a number of states", above)
		mustNotRead(t, "an accept", "\x01"+above+"\x00")
		mustNotRead(t, "a number of arcs", "\x01\x00"+above)
		mustNotRead(t, "a To", "\x01\x00\x01ab"+above)
	}
}

func TestGetOfTargetsThatAreNoStates(t *testing.T) {
	for _, to := range []uint64{1, 2, 127, 128, 4095, 4096, 4097, 1 << 31, 1 << 32, 1 << 33, 1<<63 - 1, 1 << 63, 1<<63 + 1, math.MaxUint64 - 1, math.MaxUint64} {
		mustNotRead(t, "a To of the one state", "\x01\x00\x01ab"+string(numberOf(to)))
		mustNotRead(t, "a To of the first of two states", "\x02\x00\x01ab"+string(numberOf(max(to, 2)))+"\x00\x00")
	}
	most := body(make(api.Machine, 4096))
	for to, want := range map[uint64]bool{0: true, 4094: true, 4095: true, 4096: false, 4097: false, 1 << 32: false, 1 << 63: false, math.MaxUint64: false} {
		// The last state's number of arcs is the last byte.
		b := append(slices.Clone(most[:len(most)-1]), "\x01ab"...)
		b = sealed(binary.AppendUvarint(b, to))
		if _, e := dfacode.Get(b); (e == api.OK) != want {
			t.Errorf("a To of %d of 4096 states: %d", to, e)
		}
	}
}

func TestGetOfArcsThatMayNotBe(t *testing.T) {
	const first = "\x02\x00"
	const second = "\x00\x00"
	mustRead(t, "arcs that touch", first+"\x02ac\x01dz\x00"+second, state(0, arc('a', 'c', 1), arc('d', 'z', 0)), state(0))
	for name, arcs := range map[string]string{
		"turned round": "\x01ba\x01", "turned round, all bytes": "\x01\xff\x00\x00", "the second one turned round": "\x02aa\x01dc\x00",
		"overlapping": "\x02ac\x01cd\x00", "overlapping, to the same": "\x02ac\x01bd\x01", "the same twice": "\x02aa\x01aa\x01", "one inside another one": "\x02az\x01bc\x00", "one around another one": "\x02bc\x01az\x00",
		"side by side, to the same": "\x02ac\x01dz\x01", "side by side at 0, to the same": "\x02\x00\x00\x00\x01\x01\x00", "side by side at 255, to the same": "\x02\xfe\xfe\x01\xff\xff\x01", "side by side behind another one": "\x03aa\x00bb\x01cc\x01",
		"in another order": "\x02cd\x01ab\x00", "255 ahead of 0": "\x02\xff\xff\x01\x00\x00\x00",
	} {
		mustNotRead(t, name, first+arcs+second)
		mustNotRead(t, name+", in the last state", "\x02\x00\x00\x00"+arcs)
	}
}

func TestGetOfTooManyStatesOrArcs(t *testing.T) {
	for _, states := range []int{4097, 4098, 16384, 70000} {
		mustNotGet(t, "states", sealed(body(make(api.Machine, states))))
	}
	most := ring(2, 256)
	mustGet(t, "256 arcs", sealed(body(most)), most)
	for _, more := range []api.Arc{by(0, 0), by(255, 1), by('a', 0)} {
		other := drawn.CopyMachine(most)
		other[1].Arcs = append(other[1].Arcs, more)
		mustNotGet(t, "257 arcs", sealed(body(other)))
	}
	mustNotGet(t, "512 arcs", sealed(body(api.Machine{state(0, slices.Concat(most[0].Arcs, most[0].Arcs)...), state(0)})))
}

// All short bytes of those that a small machine may have, with the right sum behind them.
func TestGetOfAllShortBytes(t *testing.T) {
	machines := 0
	for _, alphabet := range []struct {
		bytes string
		most  int
	}{{allBytes(), 2}, {"\x00\x01\x02\x03\x7f\x80\xff", 6}, {"\x00\x01\x02a", 9}} {
		for _, s := range drawn.Texts(alphabet.bytes, alphabet.most) {
			if mustGetTheSame(t, "short bytes", sealed([]byte("DFA1"+s))) {
				machines++
			}
		}
	}
	if machines < 500 {
		t.Errorf("only %d of them are machines", machines)
	}
}

// changedBytes are bytes that differ in a place or two.
func changedBytes(s *drawn.Source, b []byte) []byte {
	b = slices.Clone(b)
	for range 1 + s.Below(2) {
		i := s.Below(len(b))
		switch s.Below(5) {
		case 0:
			b = slices.Delete(b, i, i+1)
		case 1:
			b = slices.Insert(b, i, uint8(s.Below(4)))
		case 2:
			b[i] ^= 1 << s.Below(8)
		case 3:
			b[i] = []byte{0, 1, 2, 3, 127, 128, 255}[s.Below(7)]
		default:
			b[i]++
		}
	}
	return b
}

// Bytes of a machine, sound or not, with something changed and the sum made right again.
func TestGetOfChangedBytes(t *testing.T) {
	s := drawn.Source(213)
	machines, others := 0, 0
	for i := range 60000 {
		m := s.OddMachine()
		if i%2 == 0 {
			m = s.Machine(4)
			for j := range m {
				m[j].Arcs = m[j].Arcs[:min(len(m[j].Arcs), 3)]
			}
		}
		b := body(m)
		if i%5 > 0 {
			b = changedBytes(&s, b)
		}
		if mustGetTheSame(t, "changed bytes", sealed(b)) {
			machines++
		} else {
			others++
		}
	}
	if machines < 5000 || others < 5000 {
		t.Errorf("%d of them are machines, %d not", machines, others)
	}
}

func TestGetOfDrawnBytes(t *testing.T) {
	s := drawn.Source(214)
	for range 20000 {
		b := make([]byte, s.Below(60))
		for i := range b {
			b[i] = uint8(s.Below(256))
		}
		mustNotGet(t, "drawn bytes", b)
		mustNotGet(t, "drawn bytes and their sum", sealed(b))
		mustGetTheSame(t, "drawn bytes between head and sum", sealed(append([]byte("DFA1"), b...)))
	}
}

// Long bytes that are no machine end without a look at each state that they seem to have.
func TestGetOfLongBytes(t *testing.T) {
	for _, b := range []byte{0, 1, 127, 128, 255} {
		long := bytes.Repeat([]byte{b}, 1<<22)
		if m, e := dfacode.Get(long); m != nil || e != api.ErrCode {
			t.Errorf("Get of many bytes %d: %d states, %d", b, len(m), e)
		}
		if m, e := dfacode.Get(sealed(append([]byte("DFA1\xff\xff\xff\xff\x07"), long...))); m != nil || e != api.ErrCode {
			t.Errorf("Get of many states of bytes %d: %d states, %d", b, len(m), e)
		}
		if m, e := dfacode.Get(sealed(append([]byte("DFA1\x01\x00\xff\xff\xff\xff\x07"), long...))); m != nil || e != api.ErrCode {
			t.Errorf("Get of many arcs of bytes %d: %d states, %d", b, len(m), e)
		}
	}
}

// P11.4: each change of what Put tells is found out.

// machinesOfFewBytes are sound machines of all sorts.
func machinesOfFewBytes() []api.Machine {
	l := []api.Machine{nil, {state(0)}, {state(math.MaxUint64, arc(0, 255, 0))}, drawn.MachineOf("a*b|[c-x]+"), ring(3, 5)}
	for _, m := range drawn.SoundMachines(60) {
		if b, _ := dfacode.Put(m); len(b) < 200 {
			l = append(l, m)
		}
	}
	return l
}

func mustBytes(t *testing.T, m api.Machine) []byte {
	t.Helper()
	b, e := dfacode.Put(m)
	if e != api.OK {
		t.Fatalf("Put of %v: %d", m, e)
	}
	return b
}

func TestEachByteChanged(t *testing.T) {
	for _, m := range machinesOfFewBytes() {
		b := mustBytes(t, m)
		for i, was := range b {
			for other := range 256 {
				if b[i] = uint8(other); b[i] != was {
					mustNotGet(t, "a changed byte", b)
				}
			}
			b[i] = was
		}
		mustGet(t, "the bytes again", b, m)
	}
}

func TestEachByteMissing(t *testing.T) {
	for _, m := range machinesOfFewBytes() {
		b := mustBytes(t, m)
		for i := range b {
			mustNotGet(t, "the first bytes", b[:i])
			mustNotGet(t, "the last bytes", b[i+1:])
			mustNotGet(t, "all but one", slices.Concat(b[:i], b[i+1:]))
			if i < len(b)-4 {
				mustNotGet(t, "the first bytes, sealed", sealed(b[:i]))
				mustNotGet(t, "the last bytes, sealed", sealed(b[i+1:len(b)-4]))
			}
		}
	}
}

func TestAdditionalBytes(t *testing.T) {
	for _, m := range machinesOfFewBytes() {
		b := mustBytes(t, m)
		open := b[:len(b)-4]
		for more := range 256 {
			one := []byte{uint8(more)}
			mustNotGet(t, "a byte at the end", slices.Concat(b, one))
			mustNotGet(t, "two bytes at the end", slices.Concat(b, one, one))
			mustNotGet(t, "a byte ahead", slices.Concat(one, b))
			mustNotGet(t, "a byte ahead of the sum", slices.Concat(open, one, b[len(open):]))
			mustNotGet(t, "a byte ahead, sealed", sealed(slices.Concat(one, open)))
			mustNotGet(t, "a byte ahead of the sum, sealed", sealed(slices.Concat(open, one)))
			mustNotGet(t, "a byte behind the sum, sealed", sealed(slices.Concat(b, one)))
		}
		mustNotGet(t, "the same twice", slices.Concat(b, b))
		mustNotGet(t, "the sum twice", slices.Concat(b, b[len(open):]))
		mustNotGet(t, "all sealed again", sealed(b))
		for i := range b {
			mustNotGet(t, "a byte in the middle", slices.Insert(slices.Clone(b), i, 0))
			mustNotGet(t, "a byte twice", slices.Insert(slices.Clone(b), i, b[i]))
		}
	}
}

func TestBytesInAnotherOrder(t *testing.T) {
	for _, m := range machinesOfFewBytes() {
		b := mustBytes(t, m)
		for i := range len(b) - 1 {
			other := slices.Clone(b)
			other[i], other[i+1] = other[i+1], other[i]
			if !bytes.Equal(other, b) {
				mustNotGet(t, "two bytes by turns", other)
			}
		}
	}
}

// What Put tells of what Get tells are the bytes again, of sealed bytes of all sorts.
func TestPutOfGet(t *testing.T) {
	s := drawn.Source(215)
	machines := 0
	for range 30000 {
		b := body(s.OddMachine())
		if s.Below(2) == 0 {
			b = changedBytes(&s, b)
		}
		b = sealed(b)
		m, e := dfacode.Get(b)
		if e != api.OK {
			continue
		}
		machines++
		if again, f := dfacode.Put(m); f != api.OK || dfa.Check(m) != api.OK || !bytes.Equal(again, b) {
			t.Fatalf("Put of Get of % x = % x, %d", b, again, f)
		}
	}
	if machines < 2000 {
		t.Errorf("only %d of them are machines", machines)
	}
}
