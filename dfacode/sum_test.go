package dfacode_test

import (
	"bytes"
	"strings"
	"testing"

	"homograph/dfacode"
	"homograph/drawn"
)

// P11.2: Sum

func mustSum(t *testing.T, s string, want uint32) {
	t.Helper()
	if got := dfacode.Sum([]byte(s)); got != want {
		t.Errorf("Sum of %q = %d, want %d", s, got, want)
	}
}

// slowSum multiplies in more bits than a sum has, and takes the rest by 2^32 each time.
func slowSum(b []byte) uint32 {
	sum := uint64(2166136261)
	for _, x := range b {
		sum = (sum ^ uint64(x)) * 16777619 % (1 << 32)
	}
	return uint32(sum)
}

func TestSum(t *testing.T) {
	mustSum(t, "", 2166136261)
	mustSum(t, "a", 0xe40c292c)
	mustSum(t, "b", 0xe70c2de5)
	mustSum(t, "foobar", 0xbf9cf968)
	mustSum(t, "\x00", 0x050c5d1f)
	mustSum(t, "chongo was here!\n", 0xd49930d5)
	if got := dfacode.Sum(nil); got != 2166136261 {
		t.Errorf("Sum of no bytes = %d", got)
	}
}

func TestSumsOfShortBytes(t *testing.T) {
	for _, s := range drawn.Texts(allBytes(), 2) {
		mustSum(t, s, slowSum([]byte(s)))
		mustSum(t, s, sumOf([]byte(s)))
	}
}

func TestSumsOfDrawnBytes(t *testing.T) {
	s := drawn.Source(212)
	sums := map[uint32]bool{}
	for range 3000 {
		b := make([]byte, s.Below(200))
		for i := range b {
			b[i] = uint8(s.Below(256))
		}
		mustSum(t, string(b), slowSum(b))
		mustSum(t, string(b), sumOf(b))
		sums[dfacode.Sum(b)] = true
	}
	if len(sums) < 2900 {
		t.Errorf("only %d different sums", len(sums))
	}
}

func TestSumOfLongBytes(t *testing.T) {
	for _, b := range []byte{0, 1, 'a', 255} {
		long := bytes.Repeat([]byte{b}, 1<<22)
		if got, want := dfacode.Sum(long), slowSum(long); got != want {
			t.Errorf("Sum of many bytes %d = %d, want %d", b, got, want)
		}
	}
}

func TestSumHangsOnOrder(t *testing.T) {
	for _, pair := range [][2]string{{"ab", "ba"}, {"\x00a", "a\x00"}, {"aab", "aba"}, {"\x00", "\x00\x00"}, {"", "\x00"}} {
		if dfacode.Sum([]byte(pair[0])) == dfacode.Sum([]byte(pair[1])) {
			t.Errorf("Sum of %q and of %q are the same", pair[0], pair[1])
		}
	}
	first, second := strings.Repeat("ab", 100), strings.Repeat("ba", 100)
	if dfacode.Sum([]byte(first)) == dfacode.Sum([]byte(second)) {
		t.Error("Sum of long texts in another order is the same")
	}
}
