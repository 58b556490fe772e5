package minim_test

import (
	"slices"
	"strings"
	"testing"

	"homograph/api"
	"homograph/drawn"
	"homograph/minim"
)

// P8.2

func TestDiffer(t *testing.T) {
	end, loop := state(1), state(1, by('a', 0))
	for name, c := range map[string]struct {
		a, b api.Machine
		want string
	}{
		"an end and none":                        {api.Machine{end}, api.Machine{state(0)}, ""},
		"an end and no states":                   {api.Machine{end}, nil, ""},
		"one a and no states":                    {api.Machine{state(0, by('a', 1)), end}, nil, "a"},
		"one a and none":                         {api.Machine{end}, api.Machine{state(1, by('a', 1)), end}, "a"},
		"one a and many":                         {api.Machine{loop}, api.Machine{state(1, by('a', 1)), end}, "aa"},
		"a and b":                                {api.Machine{state(0, by('a', 1)), end}, api.Machine{state(0, by('b', 1)), end}, "a"},
		"two ends that aren't the same":          {api.Machine{state(1)}, api.Machine{state(2)}, ""},
		"two ends that aren't the same behind a": {api.Machine{state(4, by('a', 1)), state(1)}, api.Machine{state(4, by('a', 1)), state(3)}, "a"},
		"ends that share a token":                {api.Machine{state(1, by('a', 0))}, api.Machine{state(1, by('a', 1)), state(1, by('a', 2)), state(1|1<<63, by('a', 0))}, "aa"},
		"what goes on behind what doesn't":       {api.Machine{state(1, by('a', 1)), state(0, by('b', 2)), state(0)}, api.Machine{state(1, by('a', 1)), state(0, by('b', 2)), state(0, by('c', 3)), end}, "abc"},
	} {
		mustDiffer(t, name, c.a, c.b, c.want)
	}
	mustDiffer(t, "(ab)* and (ab)+", drawn.MachineOf("(ab)*"), drawn.MachineOf("(ab)+"), "")
	mustDiffer(t, "a{3} and a{4}", drawn.MachineOf("a{3}"), drawn.MachineOf("a{4}"), "aaa")
	mustDiffer(t, "[ab]*abb and [ab]*bab", drawn.MachineOf("[ab]*abb"), drawn.MachineOf("[ab]*bab"), "abb")
	mustDiffer(t, "(aa)* and (aaa)*", drawn.MachineOf("(aa)*"), drawn.MachineOf("(aaa)*"), "aa")
}

// Of the texts of as many bytes that differ, the one whose first other byte is less comes first, whatever comes behind it.
func TestShortestOfSeveral(t *testing.T) {
	for _, c := range []struct{ a, b, want string }{
		{"[bc]|aa", "[bc]", "aa"}, {"[bc]|aa", "()|[bc]", ""}, {"az|ba", "[]", "az"}, {"ba|az", "aa", "aa"}, {"az|ba", "az", "ba"}, {"az|ba", "ba", "az"},
		{"bb|ac|ca", "bb|ca", "ac"}, {"bb|ac|ca", "ac|ca", "bb"}, {"zz|aaa", "[]", "zz"}, {"zz|aaa", "zz", "aaa"}, {"ab*c|b", "b", "ac"}, {"[a-z]{3}", "[a-y]{3}", "aaz"}, {"[a-z]{3}", "[b-z]{3}", "aaa"}, {"[a-z]{3}", "a[a-z]{2}", "baa"}, {"[a-z]{3}", "[a-z]b[a-z]", "aaa"},
		{"[a-z]{3}", "~b&[a-z]{3}|b", "b"}, {"(.*a.*){2}", "(.*a.*){3}", "aa"}, {"(.*a.*){2}&b.*", "(.*a.*){3}&b.*", "baa"}, {"[^]{2}", "[^]{3}", "\x00\x00"}, {"[^]{2}", "[^\\x00][^]", "\x00\x00"}, {"[^]{2}", "[^][^\\x00]", "\x00\x00"},
	} {
		mustDiffer(t, c.a+" and "+c.b, drawn.MachineOf(c.a), drawn.MachineOf(c.b), c.want)
	}
	for s, want := range map[string]string{"b|a": "a", "bb|ab": "ab", "ba|ab": "ab", "b|aa": "b", "aaa|ba": "ba", "c(b|a)|d": "d", "c(b|a)|dddd": "ca", "a*b": "b", "a+b*c": "ac", "[ab]*abb": "abb", "[ba]{4}": "aaaa", ".*xyz.*": "xyz", "": "", "a*": "", "~a": "", "~()": "\x00", "~(a?)&a.*": "a\x00", "[^]{3}": "\x00\x00\x00", "(.*b.*)&(.*a.*)": "ab"} {
		mustEnd(t, s, drawn.MachineOf(s), want, true)
	}
}

func TestTextsOfBytes0And255(t *testing.T) {
	end := state(1)
	row := func(s string) api.Machine {
		var m api.Machine
		for i := range len(s) {
			m = append(m, state(0, by(s[i], i+1)))
		}
		return append(m, end)
	}
	for _, s := range []string{"\x00", "\xff", "\x00\xff", "\xff\x00", "\x00\x00", "\xff\xff", "a\x00", "a\xff\x00\x7f\x80", "\xc3\xa9", "\xa9\xc3"} {
		mustEnd(t, "one text", row(s), s, true)
		mustDiffer(t, "one text and a shorter one", row(s), row(s[:len(s)-1]), s[:len(s)-1])
	}
	// Bytes are numbers from 0 to 255, so that 255 comes last and 127 ahead of 128.
	mustDiffer(t, "bytes 0 and 255", row("\x00"), row("\xff"), "\x00")
	mustDiffer(t, "bytes 127 and 128", row("\x7f"), row("\x80"), "\x7f")
	mustDiffer(t, "255 first and 0 first", row("\xff\x00"), row("\x00\xff"), "\x00\xff")
	mustDiffer(t, "a byte 0 behind a text", row("a"), row("a\x00"), "a")
	all := api.Machine{state(1, arc(0, 255, 0))}
	for b := range 256 {
		var m api.Machine
		switch b {
		case 0:
			m = api.Machine{state(1, arc(1, 255, 0))}
		case 255:
			m = api.Machine{state(1, arc(0, 254, 0))}
		default:
			m = api.Machine{state(1, arc(0, uint8(b-1), 0), arc(uint8(b+1), 255, 0))}
		}
		mustDiffer(t, "all texts and those without a byte", all, m, string([]byte{byte(b)}))
	}
}

func TestShortestOfWhatEndsNothing(t *testing.T) {
	mustEnd(t, "no states", nil, "", false)
	mustEnd(t, "no states, not nil", api.Machine{}, "", false)
	mustEnd(t, "a state without an end", api.Machine{state(0)}, "", false)
	mustEnd(t, "an end that isn't reached", api.Machine{state(0, arc(0, 255, 0)), state(1)}, "", false)
	mustEnd(t, "an end", api.Machine{state(1)}, "", true)
	mustEnd(t, "an end behind others", api.Machine{state(0, by('a', 1)), state(0, by('b', 0), by('c', 2)), state(1 << 63)}, "ac", true)
}

func TestMachinesWithoutStates(t *testing.T) {
	none := []api.Machine{nil, {}, {state(0)}, {state(0, arc(0, 255, 0))}, {state(0, by('a', 1)), state(0, by('a', 0)), state(1)}}
	for _, a := range none {
		for _, b := range none {
			mustBeAlike(t, "two that end nothing", a, b)
		}
		mustDiffer(t, "one that ends nothing, and aab", a, drawn.MachineOf("aab"), "aab")
		mustDiffer(t, "one that ends nothing, and a*", a, drawn.MachineOf("a*"), "")
	}
}

func TestDifferOfDrawnMachines(t *testing.T) {
	s := drawn.Source(83)
	long, none := 0, 0
	l := machines(900)
	for i, a := range l {
		mustBeAlike(t, "a machine and itself", a, a)
		mustBeAlike(t, "a machine and its like", a, shuffled(&s, blown(&s, a)))
		want, ends := differOf(a, nil)
		mustEnd(t, "a drawn machine", a, want, ends)
		// One arc or one end less is a small difference, if any.
		others := []api.Machine{l[s.Below(len(l))], changed(&s, a), blown(&s, changed(&s, minim.Least(a)))}
		for _, b := range others {
			want, found := differOf(a, b)
			if !found {
				none++
				mustBeAlike(t, "drawn machines", a, b)
				continue
			}
			if len(want) > 2 {
				long++
			}
			mustDiffer(t, "drawn machines", a, b, want)
		}
		if t.Failed() {
			t.Fatalf("wrong with %v, the machine %d", a, i)
		}
	}
	if long < 200 || none < 200 {
		t.Errorf("%d differ by texts of more than two bytes, %d don't differ", long, none)
	}
}

// changed is a machine that has another end, or leads elsewhere by some bytes, in one of its states.
func changed(s *drawn.Source, m api.Machine) api.Machine {
	out := drawn.CopyMachine(m)
	if len(m) == 0 {
		return out
	}
	at := &out[s.Below(len(m))]
	if s.Below(2) == 0 || len(at.Arcs) == 0 {
		at.Accept = uint64(s.Below(3))
		return out
	}
	i := s.Below(len(at.Arcs))
	at.Arcs = append(at.Arcs[:i:i], at.Arcs[i+1:]...)
	return out
}

// All texts are held against each other, the shortest first.
func TestDifferOfAllTexts(t *testing.T) {
	s := drawn.Source(84)
	texts := drawn.Texts("\x00a\xff", 6)
	for range 1500 {
		var l [2]api.Machine
		for i := range l {
			l[i] = make(api.Machine, 1+s.Below(3))
			for j := range l[i] {
				l[i][j].Accept = uint64(s.Below(5) / 2)
				for _, b := range []uint8{0, 'a', 255} {
					if to := s.Below(len(l[i])+1) - 1; to >= 0 {
						l[i][j].Arcs = append(l[i][j].Arcs, by(b, to))
					}
				}
			}
		}
		at := slices.IndexFunc(texts, func(text string) bool { return resultOf(l[0], text) != resultOf(l[1], text) })
		// Two machines with three states each differ behind a text of five bytes at most, if at all.
		if at < 0 {
			mustBeAlike(t, "two small machines", l[0], l[1])
		} else {
			mustDiffer(t, "two small machines", l[0], l[1], texts[at])
		}
		at = slices.IndexFunc(texts, func(text string) bool { return resultOf(l[0], text) != 0 })
		mustEnd(t, "a small machine", l[0], texts[max(at, 0)], at >= 0)
	}
}

// ring is a machine that goes round by one byte, whose ends are those of a row.
func ring(b uint8, ends []uint64) api.Machine {
	var m api.Machine
	for i, end := range ends {
		m = append(m, state(end, by(b, (i+1)%len(ends))))
	}
	return m
}

// Two rings that have no common divisor may agree on all texts of fewer bytes than both have together, less two.
func TestLongTextsThatDiffer(t *testing.T) {
	for _, c := range [][2]int{{2, 3}, {3, 5}, {5, 8}, {89, 144}, {1000, 1001}, {2047, 4096}, {4095, 4096}} {
		ends := commonEnds(c[0], c[1])
		a, b := ring('a', ends[:c[0]]), ring('a', ends[:c[1]])
		as := strings.Repeat("a", c[0]+c[1]-2)
		mustDiffer(t, "two rings", a, b, as)
		mustBeAlike(t, "a ring and itself", a, a)
		mustBe(t, "a ring", b, b)
	}
	for _, length := range []int{1, 2, 100, api.MaxStates - 1} {
		text := strings.Repeat("ab", length)[:length]
		row := make(api.Machine, length+1)
		for i := range length {
			row[i] = state(1, by(text[i], i+1))
		}
		other := drawn.CopyMachine(row)
		other[length].Accept = 1
		mustDiffer(t, "two rows", row, other, text)
		other[length].Accept = 0
		other[length].Arcs = []api.Arc{by('z', 0)}
		mustDiffer(t, "a row, and one that begins again", row, other, text+"z")
	}
}

// commonEnds is a row of ends, of as many as both numbers together less two, that goes on both by the one and by the other.
func commonEnds(p, q int) []uint64 {
	ends := make([]uint64, p+q-2)
	// What a number's place is like is spread from the first place, which leaves out at least one.
	ends[0] = 1
	for again := true; again; {
		again = false
		for i := range ends {
			for _, j := range []int{i + p, i + q} {
				if j < len(ends) && ends[i] != ends[j] {
					ends[i], ends[j], again = 1, 1, true
				}
			}
		}
	}
	return ends
}
