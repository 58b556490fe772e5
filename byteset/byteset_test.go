package byteset_test

import (
	"math"
	"slices"
	"testing"

	"homograph/api"
	"homograph/byteset"
)

var (
	none api.Set
	all  = api.Set{math.MaxUint64, math.MaxUint64, math.MaxUint64, math.MaxUint64}
)

// bit is the meaning of a set as package api gives it, told without byteset.
func bit(s api.Set, b int) bool { return s[b/64]&(1<<(b%64)) != 0 }

// where makes a set from a question, without byteset.
func where(is func(b int) bool) api.Set {
	var s api.Set
	for b := range 256 {
		if is(b) {
			s[b/64] |= 1 << (b % 64)
		}
	}
	return s
}

// samples are sets of all shapes: the edges, single bytes, ends of the elements, and mixed bits.
func samples() []api.Set {
	l := []api.Set{
		none, all,
		{1}, {1 << 63}, {0, 1}, {0, 1 << 63}, {0, 0, 1}, {0, 0, 1 << 63}, {0, 0, 0, 1}, {0, 0, 0, 1 << 63},
		{1 << 63, 1}, {1, 0, 0, 1 << 63}, {0, math.MaxUint64}, {math.MaxUint64, 0, math.MaxUint64},
		where(func(b int) bool { return b%2 == 0 }),
		where(func(b int) bool { return b%3 == 1 }),
		where(func(b int) bool { return b >= 'a' && b <= 'z' }),
		where(func(b int) bool { return b != 10 }),
	}
	x := uint64(1)
	for range 40 {
		var s api.Set
		for i := range s {
			x = x*6364136223846793005 + 1442695040888963407
			s[i] = x ^ x>>29
		}
		l = append(l, s)
	}
	return l
}

// P1.1

func TestHasIsTheBit(t *testing.T) {
	for _, s := range samples() {
		for b := range 256 {
			if got := byteset.Has(s, uint8(b)); got != bit(s, b) {
				t.Fatalf("Has(%x, %d) = %v", s, b, got)
			}
		}
	}
}

func TestRangeHasBothEnds(t *testing.T) {
	for lo := range 256 {
		for hi := range 256 {
			want := where(func(b int) bool { return lo <= b && b <= hi })
			if got := byteset.Range(uint8(lo), uint8(hi)); got != want {
				t.Fatalf("Range(%d, %d) = %x, want %x", lo, hi, got, want)
			}
		}
	}
}

func TestRangeEdges(t *testing.T) {
	for _, c := range []struct {
		lo, hi uint8
		want   api.Set
	}{
		{0, 255, all},
		{0, 0, api.Set{1}},
		{255, 255, api.Set{0, 0, 0, 1 << 63}},
		{63, 64, api.Set{1 << 63, 1}},
		{5, 4, none},
		{255, 0, none},
	} {
		if got := byteset.Range(c.lo, c.hi); got != c.want {
			t.Errorf("Range(%d, %d) = %x, want %x", c.lo, c.hi, got, c.want)
		}
	}
}

func TestOfIsAllBytesOfAText(t *testing.T) {
	for _, s := range []string{"", "a", "hello", "aaa", "\x00\xff", "é", "\xc3(", "zyx\n\t"} {
		want := where(func(b int) bool { return slices.Contains([]byte(s), byte(b)) })
		if got := byteset.Of(s); got != want {
			t.Errorf("Of(%q) = %x, want %x", s, got, want)
		}
	}
	every := make([]byte, 256)
	for b := range every {
		every[b] = byte(b)
	}
	if got := byteset.Of(string(every)); got != all {
		t.Errorf("Of of all bytes = %x", got)
	}
}

// P1.2

func TestUnionAndInterOfNone(t *testing.T) {
	if got := byteset.Union(); got != none {
		t.Errorf("Union() = %x", got)
	}
	if got := byteset.Inter(); got != all {
		t.Errorf("Inter() = %x", got)
	}
	if got := byteset.Union([]api.Set{}...); got != none {
		t.Errorf("Union of an empty list = %x", got)
	}
	if got := byteset.Inter([]api.Set{}...); got != all {
		t.Errorf("Inter of an empty list = %x", got)
	}
}

func TestUnionAndInterOfOne(t *testing.T) {
	for _, s := range samples() {
		if got := byteset.Union(s); got != s {
			t.Errorf("Union(%x) = %x", s, got)
		}
		if got := byteset.Inter(s); got != s {
			t.Errorf("Inter(%x) = %x", s, got)
		}
	}
}

func TestUnionAndInterOfMore(t *testing.T) {
	l := samples()
	for i, a := range l {
		for j, b := range l {
			c := l[(i+2*j)%len(l)]
			either := where(func(x int) bool { return bit(a, x) || bit(b, x) })
			if got := byteset.Union(a, b); got != either {
				t.Fatalf("Union(%x, %x) = %x", a, b, got)
			}
			both := where(func(x int) bool { return bit(a, x) && bit(b, x) })
			if got := byteset.Inter(a, b); got != both {
				t.Fatalf("Inter(%x, %x) = %x", a, b, got)
			}
			some := where(func(x int) bool { return bit(a, x) || bit(b, x) || bit(c, x) })
			if got := byteset.Union(a, b, c); got != some {
				t.Fatalf("Union(%x, %x, %x) = %x", a, b, c, got)
			}
			each := where(func(x int) bool { return bit(a, x) && bit(b, x) && bit(c, x) })
			if got := byteset.Inter(a, b, c); got != each {
				t.Fatalf("Inter(%x, %x, %x) = %x", a, b, c, got)
			}
		}
	}
}

func TestNotIsTheComplement(t *testing.T) {
	for _, s := range samples() {
		want := where(func(b int) bool { return !bit(s, b) })
		if got := byteset.Not(s); got != want {
			t.Errorf("Not(%x) = %x, want %x", s, got, want)
		}
	}
	if byteset.Not(none) != all || byteset.Not(all) != none {
		t.Error("Not of the empty set, or of all bytes")
	}
}

func TestCount(t *testing.T) {
	for _, s := range samples() {
		want := 0
		for b := range 256 {
			if bit(s, b) {
				want++
			}
		}
		if got := byteset.Count(s); got != want {
			t.Errorf("Count(%x) = %d, want %d", s, got, want)
		}
	}
	if byteset.Count(none) != 0 || byteset.Count(all) != 256 {
		t.Error("Count of the empty set, or of all bytes")
	}
}

// P1.3

// firstSlow goes through the bytes one by one.
func firstSlow(s api.Set, from int) (uint8, bool) {
	for b := range 256 {
		if b >= from && bit(s, b) {
			return uint8(b), true
		}
	}
	return 0, false
}

func TestFirst(t *testing.T) {
	for _, s := range samples() {
		for from := -3; from < 260; from++ {
			want, wantOk := firstSlow(s, from)
			if got, ok := byteset.First(s, from); got != want || ok != wantOk {
				t.Fatalf("First(%x, %d) = %d, %v, want %d, %v", s, from, got, ok, want, wantOk)
			}
		}
	}
}

func TestFirstEdges(t *testing.T) {
	abc := byteset.Of("abc")
	for _, c := range []struct {
		s    api.Set
		from int
		b    uint8
		ok   bool
	}{
		{abc, -1, 'a', true},
		{abc, math.MinInt, 'a', true},
		{all, math.MinInt, 0, true},
		{abc, 'c', 'c', true},
		{abc, 'd', 0, false},
		{all, 255, 255, true},
		{all, 256, 0, false},
		{all, 256 + 'a', 0, false},
		{all, math.MaxInt, 0, false},
		{none, 0, 0, false},
		{none, -1, 0, false},
		{api.Set{1}, 0, 0, true},
		{api.Set{1}, 1, 0, false},
	} {
		if b, ok := byteset.First(c.s, c.from); b != c.b || ok != c.ok {
			t.Errorf("First(%x, %d) = %d, %v, want %d, %v", c.s, c.from, b, ok, c.b, c.ok)
		}
	}
}

// rangesSlow grows the last run byte by byte.
func rangesSlow(s api.Set) [][2]uint8 {
	var l [][2]uint8
	for b := range 256 {
		switch {
		case !bit(s, b):
		case b > 0 && bit(s, b-1):
			l[len(l)-1][1] = uint8(b)
		default:
			l = append(l, [2]uint8{uint8(b), uint8(b)})
		}
	}
	return l
}

func TestRanges(t *testing.T) {
	for _, s := range samples() {
		if got, want := byteset.Ranges(s), rangesSlow(s); !slices.Equal(got, want) {
			t.Errorf("Ranges(%x) = %v, want %v", s, got, want)
		}
	}
}

func TestRangesEdges(t *testing.T) {
	for _, c := range []struct {
		s    api.Set
		want [][2]uint8
	}{
		{none, nil},
		{all, [][2]uint8{{0, 255}}},
		{byteset.Union(byteset.Of("ace"), byteset.Of("b")), [][2]uint8{{'a', 'c'}, {'e', 'e'}}},
		{byteset.Of("\x00\xff"), [][2]uint8{{0, 0}, {255, 255}}},
		{byteset.Range(60, 200), [][2]uint8{{60, 200}}},
		{byteset.Not(byteset.Of("\n")), [][2]uint8{{0, 9}, {11, 255}}},
	} {
		if got := byteset.Ranges(c.s); !slices.Equal(got, c.want) {
			t.Errorf("Ranges(%x) = %v, want %v", c.s, got, c.want)
		}
	}
}

// P1.4

// cutSlow groups the bytes by the list of the sets that have them.
func cutSlow(l []api.Set) []api.Set {
	var blocks []api.Set
	at := map[string]int{}
	for b := range 256 {
		key := make([]byte, len(l))
		for i, s := range l {
			if bit(s, b) {
				key[i] = 1
			}
		}
		k, ok := at[string(key)]
		if !ok {
			k = len(blocks)
			at[string(key)] = k
			blocks = append(blocks, none)
		}
		blocks[k][b/64] |= 1 << (b % 64)
	}
	return blocks
}

func TestCut(t *testing.T) {
	l := samples()
	for i := range l {
		for _, n := range []int{1, 2, 3, 7} {
			part := l[i:min(i+n, len(l))]
			if got, want := byteset.Cut(part), cutSlow(part); !slices.Equal(got, want) {
				t.Fatalf("Cut(%x) = %x, want %x", part, got, want)
			}
		}
	}
	if got, want := byteset.Cut(l), cutSlow(l); !slices.Equal(got, want) {
		t.Errorf("Cut of all samples: %d blocks, want %d", len(got), len(want))
	}
}

func TestCutEdges(t *testing.T) {
	abc, bcd := byteset.Of("abc"), byteset.Of("bcd")
	for _, c := range []struct {
		name    string
		l, want []api.Set
	}{
		{"nil", nil, []api.Set{all}},
		{"no sets", []api.Set{}, []api.Set{all}},
		{"the empty set", []api.Set{none}, []api.Set{all}},
		{"all bytes", []api.Set{all}, []api.Set{all}},
		{"both", []api.Set{none, all, none}, []api.Set{all}},
		{"one set", []api.Set{abc}, []api.Set{byteset.Not(abc), abc}},
		{"equal sets", []api.Set{abc, abc, abc}, []api.Set{byteset.Not(abc), abc}},
		{"a set and its complement", []api.Set{abc, byteset.Not(abc)}, []api.Set{byteset.Not(abc), abc}},
		{"a set with byte 0", []api.Set{byteset.Of("\x00z")}, []api.Set{byteset.Of("\x00z"), byteset.Not(byteset.Of("\x00z"))}},
		{"sets that meet", []api.Set{bcd, abc}, []api.Set{
			byteset.Not(byteset.Of("abcd")), byteset.Of("a"), byteset.Of("bc"), byteset.Of("d"),
		}},
	} {
		if got := byteset.Cut(c.l); !slices.Equal(got, c.want) {
			t.Errorf("%s: Cut = %x, want %x", c.name, got, c.want)
		}
	}
}

func TestCutIntoSingleBytes(t *testing.T) {
	var l []api.Set
	for k := range 8 {
		l = append(l, where(func(b int) bool { return b>>k&1 != 0 }))
	}
	blocks := byteset.Cut(l)
	if len(blocks) != 256 {
		t.Fatalf("%d blocks, want 256", len(blocks))
	}
	for b, s := range blocks {
		if s != byteset.Range(uint8(b), uint8(b)) {
			t.Errorf("block %d = %x", b, s)
		}
	}
}

// P1.5

func TestComplementsMeetInTheComplementOfTheUnion(t *testing.T) {
	l := samples()
	for _, a := range l {
		for _, b := range l {
			if byteset.Inter(byteset.Not(a), byteset.Not(b)) != byteset.Not(byteset.Union(a, b)) {
				t.Fatalf("of %x and %x", a, b)
			}
		}
	}
}

func TestRangesTogetherAreTheSet(t *testing.T) {
	for _, s := range samples() {
		var together api.Set
		for _, r := range byteset.Ranges(s) {
			together = byteset.Union(together, byteset.Range(r[0], r[1]))
		}
		if together != s {
			t.Errorf("the ranges of %x are %x", s, together)
		}
	}
}

// Rule 3: arguments are neither modified nor retained.

func TestArgumentsAreNotModified(t *testing.T) {
	whole := samples()
	before := slices.Clone(whole)
	// Spare capacity belongs to the argument too.
	part := whole[: len(whole)/2 : len(whole)]
	byteset.Union(part...)
	byteset.Inter(part...)
	byteset.Cut(part)
	for i := range part {
		byteset.Not(part[i])
		byteset.Count(part[i])
		byteset.First(part[i], 0)
		byteset.Ranges(part[i])
	}
	if !slices.Equal(whole, before) {
		t.Error("an argument was modified")
	}
}

func TestArgumentsAreNotRetained(t *testing.T) {
	l := []api.Set{byteset.Of("abc"), byteset.Of("bcd")}
	first := byteset.Cut(l)
	want := slices.Clone(first)
	l[0], l[1] = all, none
	if !slices.Equal(first, want) {
		t.Error("Cut's result changed with its argument")
	}
	l = []api.Set{byteset.Of("abc"), byteset.Of("bcd")}
	again := byteset.Cut(l)
	clear(first)
	if !slices.Equal(again, want) || !slices.Equal(l, []api.Set{byteset.Of("abc"), byteset.Of("bcd")}) {
		t.Error("two results of Cut, or a result and its argument, share memory")
	}
}
