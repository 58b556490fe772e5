package dfacode_test

import (
	"bytes"
	"math"
	"math/bits"
	"slices"
	"testing"

	"homograph/dfacode"
	"homograph/drawn"
)

// P11.1: Number and Value

// mustNumber holds that Number of n is certain bytes, and Value of these is n, whatever is behind them.
func mustNumber(t *testing.T, n uint64, want ...byte) {
	t.Helper()
	if got := dfacode.Number(n); !bytes.Equal(got, want) {
		t.Errorf("Number(%d) = % x, want % x", n, got, want)
	}
	mustValue(t, want, n, len(want))
	for _, behind := range [][]byte{{0}, {1}, {127}, {128}, {255}, {128, 1}, {255, 255, 255}, want} {
		mustValue(t, append(slices.Clone(want), behind...), n, len(want))
	}
}

func mustValue(t *testing.T, b []byte, want uint64, length int) {
	t.Helper()
	if n, l := dfacode.Value(b); n != want || l != length {
		t.Errorf("Value(% x) = %d, %d, want %d, %d", b, n, l, want, length)
	}
}

// mustNotValue holds that bytes begin with no number.
func mustNotValue(t *testing.T, b ...byte) {
	t.Helper()
	mustValue(t, b, 0, 0)
}

func TestNumber(t *testing.T) {
	mustNumber(t, 0, 0)
	mustNumber(t, 1, 1)
	mustNumber(t, 97, 97)
	mustNumber(t, 126, 126)
	mustNumber(t, 127, 127)
	mustNumber(t, 128, 128, 1)
	mustNumber(t, 129, 129, 1)
	mustNumber(t, 255, 255, 1)
	mustNumber(t, 256, 128, 2)
	mustNumber(t, 300, 172, 2)
	mustNumber(t, 1<<13, 128, 64)
	mustNumber(t, 1<<14-1, 255, 127)
	mustNumber(t, 1<<14, 128, 128, 1)
	mustNumber(t, 1<<14+1, 129, 128, 1)
	mustNumber(t, 1<<14+1<<7, 128, 129, 1)
	mustNumber(t, 1<<21-1, 255, 255, 127)
	mustNumber(t, 1<<21, 128, 128, 128, 1)
	mustNumber(t, 1<<32, 128, 128, 128, 128, 16)
	mustNumber(t, 1<<63-1, 255, 255, 255, 255, 255, 255, 255, 255, 127)
	mustNumber(t, 1<<63, 128, 128, 128, 128, 128, 128, 128, 128, 128, 1)
	mustNumber(t, math.MaxUint64-1, 254, 255, 255, 255, 255, 255, 255, 255, 255, 1)
	mustNumber(t, math.MaxUint64, 255, 255, 255, 255, 255, 255, 255, 255, 255, 1)
}

// mustBeNumbered holds a number's bytes against the library's, and their number against that of the groups.
func mustBeNumbered(t *testing.T, n uint64) {
	t.Helper()
	mustNumber(t, n, numberOf(n)...)
	if got, want := len(dfacode.Number(n)), max(1, (bits.Len64(n)+6)/7); got != want {
		t.Errorf("Number(%d) has %d bytes, want %d", n, got, want)
	}
}

func TestPowersOfTwoAndTheirNeighbours(t *testing.T) {
	for k := range 64 {
		power := uint64(1) << k
		for _, n := range []uint64{power - 1, power, power + 1, -power, -power - 1} {
			mustBeNumbered(t, n)
		}
	}
}

func TestNumbersInARow(t *testing.T) {
	for n := range uint64(70000) {
		mustBeNumbered(t, n)
		mustBeNumbered(t, math.MaxUint64-n)
	}
}

func TestDrawnNumbers(t *testing.T) {
	s := drawn.Source(210)
	for range 20000 {
		n := uint64(s.Below(1<<31))<<40 ^ uint64(s.Below(1<<31))<<20 ^ uint64(s.Below(1<<31))
		mustBeNumbered(t, n>>s.Below(64))
	}
}

func TestValueOfWhatBreaksOff(t *testing.T) {
	mustNotValue(t)
	mustValue(t, nil, 0, 0)
	for _, n := range []uint64{128, 300, 1<<14 - 1, 1 << 14, 1 << 35, 1 << 63, math.MaxUint64 - 1, math.MaxUint64} {
		whole := dfacode.Number(n)
		for l := range whole {
			mustNotValue(t, whole[:l]...)
		}
	}
	for l := range 40 {
		mustNotValue(t, bytes.Repeat([]byte{128}, l)...)
		mustNotValue(t, bytes.Repeat([]byte{255}, l)...)
	}
}

func TestValueOfWhatIsLongerThanNecessary(t *testing.T) {
	for _, n := range []uint64{0, 1, 127, 128, 300, 1<<14 - 1, 1 << 14, 1 << 42, 1<<63 - 1, 1 << 63, math.MaxUint64} {
		long := dfacode.Number(n)
		// Each time a group of 0 more.
		for range 14 {
			long[len(long)-1] += 128
			long = append(long, 0)
			mustNotValue(t, long...)
			mustNotValue(t, append(slices.Clone(long), 1)...)
		}
	}
	// A group of 0 may stand in the middle.
	mustValue(t, []byte{128, 128, 1, 0}, 1<<14, 3)
}

func TestValueOfWhatIsAboveTheGreatestNumber(t *testing.T) {
	nine := bytes.Repeat([]byte{255}, 9)
	mustValue(t, append(slices.Clone(nine), 1), math.MaxUint64, 10)
	for last := 2; last < 256; last++ {
		for _, first := range []byte{128, 129, 255} {
			nine[0] = first
			tenth := append(slices.Clone(nine), uint8(last))
			mustNotValue(t, tenth...)
			mustNotValue(t, append(tenth, 0)...)
			mustNotValue(t, append(tenth, 1)...)
		}
	}
	zeros := bytes.Repeat([]byte{128}, 9)
	mustValue(t, append(slices.Clone(zeros), 1), 1<<63, 10)
	mustNotValue(t, append(slices.Clone(zeros), 2)...)
	// 2^64, 2^70 and more, of which only low bits would be left.
	mustNotValue(t, append(slices.Clone(zeros), 129, 0)...)
	for groups := 10; groups < 40; groups++ {
		mustNotValue(t, append(bytes.Repeat([]byte{128}, groups), 1)...)
		mustNotValue(t, append(bytes.Repeat([]byte{255}, groups), 1)...)
	}
}

func TestValueOfLongBytes(t *testing.T) {
	const length = 1 << 22
	for _, b := range []byte{0, 1, 127} {
		mustValue(t, bytes.Repeat([]byte{b}, length), uint64(b), 1)
	}
	for _, b := range []byte{128, 129, 255} {
		long := bytes.Repeat([]byte{b}, length)
		for _, last := range []byte{b, 0, 1} {
			long[length-1] = last
			if n, l := dfacode.Value(long); n != 0 || l != 0 {
				t.Errorf("Value of many bytes %d, and %d = %d, %d", b, last, n, l)
			}
		}
	}
}

// All bytes of length 3 at most, and longer ones of those at the edges.
func TestValueOfAllShortBytes(t *testing.T) {
	values := 0
	for _, alphabet := range []struct {
		bytes string
		most  int
	}{{allBytes(), 2}, {"\x00\x01\x02\x7e\x7f\x80\x81\xfe\xff", 5}, {"\x00\x01\x80", 11}} {
		for _, text := range drawn.Texts(alphabet.bytes, alphabet.most) {
			n, length := valueOf([]byte(text))
			mustValue(t, []byte(text), n, length)
			if length > 0 {
				values++
			}
		}
	}
	if values < 200000 {
		t.Errorf("only %d of them begin with a number", values)
	}
}

// allBytes is a text of each byte once, rising.
func allBytes() string {
	var all [256]byte
	for b := range all {
		all[b] = uint8(b)
	}
	return string(all[:])
}

func TestValueOfDrawnBytes(t *testing.T) {
	s := drawn.Source(211)
	lengths := map[int]int{}
	for range 60000 {
		b := make([]byte, s.Below(13))
		for i := range b {
			b[i] = []byte{0, 1, 1, 127, uint8(s.Below(256))}[s.Below(5)]
			if s.Below(8) > 0 {
				b[i] |= 128
			}
		}
		n, length := valueOf(b)
		mustValue(t, b, n, length)
		lengths[length]++
	}
	for length := range 11 {
		if lengths[length] < 100 {
			t.Errorf("only %d numbers have %d bytes", lengths[length], length)
		}
	}
}
