package spec_test

import (
	"slices"
	"strconv"
	"strings"
	"testing"

	"homograph/api"
	"homograph/drawn"
	"homograph/spec"
)

// P13.1: Reserved

func TestReserved(t *testing.T) {
	reserved := []string{"token", "layout", "start", "longest", "prio"}
	for _, name := range reserved {
		if !spec.Reserved(name) {
			t.Errorf("%q is not reserved", name)
		}
		near := []string{
			name + "s", name + "_", name + "1", name + " ", name + ";", name + "\n", name + "\x00", name + name, "a" + name, "_" + name, " " + name, "/" + name + "/",
			name[1:], name[:len(name)-1], strings.ToUpper(name), strings.ToUpper(name[:1]) + name[1:], name[:len(name)-1] + strings.ToUpper(name[len(name)-1:]),
		}
		for _, other := range near {
			if spec.Reserved(other) {
				t.Errorf("%q is reserved", other)
			}
		}
		for _, other := range reserved {
			if spec.Reserved(name+other) || spec.Reserved(name+" "+other) {
				t.Errorf("%q and %q are reserved in one", name, other)
			}
		}
	}
	for _, name := range []string{"", "a", "tokens", "layouts", "long", "shortest", "priority", "end", "rule", "longest1", "S", ":", "|", ";", "0", "t\u043eken", "\xff"} {
		if spec.Reserved(name) {
			t.Errorf("%q is reserved", name)
		}
	}
}

// Just five of all short texts of their letters are reserved.
func TestReservedOfAllShortTexts(t *testing.T) {
	found := map[string]bool{}
	for _, alphabet := range []struct {
		letters string
		most    int
	}{{"token", 6}, {"layout", 6}, {"star", 7}, {"longest", 7}, {"prio", 7}} {
		for _, s := range drawn.Texts(alphabet.letters, alphabet.most) {
			if spec.Reserved(s) {
				found[s] = true
			}
		}
	}
	if len(found) != 5 || !found["token"] || !found["layout"] || !found["start"] || !found["longest"] || !found["prio"] {
		t.Errorf("reserved are %v", found)
	}
}

// P13.2: Names

func mustName(t *testing.T, s api.Spec, want ...string) {
	t.Helper()
	if got := spec.Names(s); !slices.Equal(got, want) {
		t.Errorf("Names(%.500v) = %.500q, want %.500q", s, got, want)
	}
}

func TestNames(t *testing.T) {
	a, b := api.Token{Name: "a"}, api.Token{Name: "b"}
	mustName(t, api.Spec{})
	mustName(t, api.Spec{Tokens: []api.Token{}, Rules: []api.Rule{}})
	mustName(t, api.Spec{Tokens: []api.Token{a}}, "a")
	mustName(t, api.Spec{Tokens: []api.Token{b, a}}, "b", "a")
	mustName(t, api.Spec{Tokens: []api.Token{{Name: "l", Layout: true}, a}}, "l", "a")
	mustName(t, api.Spec{Rules: []api.Rule{rule("S")}}, "S")
	mustName(t, api.Spec{Rules: []api.Rule{rule("T"), rule("S")}}, "T", "S")
	mustName(t, api.Spec{Rules: []api.Rule{rule("S", "y", "x")}}, "S", "y", "x")
	mustName(t, api.Spec{Rules: []api.Rule{rule("S", "a", "b", "c", "d", "e", "f", "g", "h", "i", "j")}}, "S", "a", "b", "c", "d", "e", "f", "g", "h", "i", "j")
	mustName(t, api.Spec{Start: "S"}, "S")
	mustName(t, api.Spec{Tokens: []api.Token{b, a}, Rules: []api.Rule{rule("T", "z", "y"), rule("S", "x")}, Start: "E"}, "b", "a", "T", "S", "E", "z", "y", "x")
	mustName(t, api.Spec{Tokens: []api.Token{b, a}, Rules: []api.Rule{rule("T", "z", "y"), rule("S", "x")}}, "b", "a", "T", "S", "z", "y", "x")
}

// Each row comes ahead of the next one, and a name only where it comes first.
func TestNamesThatOccurAgain(t *testing.T) {
	a, b := api.Token{Name: "a"}, api.Token{Name: "b"}
	mustName(t, api.Spec{Tokens: []api.Token{a, b, a}}, "a", "b")
	mustName(t, api.Spec{Rules: []api.Rule{rule("S"), rule("T"), rule("S")}}, "S", "T")
	mustName(t, api.Spec{Rules: []api.Rule{rule("S", "x", "y", "x"), rule("S", "y", "z")}}, "S", "x", "y", "z")
	// Each pair of rows.
	mustName(t, api.Spec{Tokens: []api.Token{b, a}, Rules: []api.Rule{rule("S"), rule("a"), rule("b")}}, "b", "a", "S")
	mustName(t, api.Spec{Tokens: []api.Token{b, a}, Start: "a"}, "b", "a")
	mustName(t, api.Spec{Tokens: []api.Token{b, a}, Rules: []api.Rule{rule("S", "x", "a", "b")}}, "b", "a", "S", "x")
	mustName(t, api.Spec{Rules: []api.Rule{rule("S"), rule("T")}, Start: "S"}, "S", "T")
	mustName(t, api.Spec{Rules: []api.Rule{rule("S"), rule("T")}, Start: "T"}, "S", "T")
	mustName(t, api.Spec{Rules: []api.Rule{rule("S", "T", "x", "S"), rule("T")}}, "S", "T", "x")
	mustName(t, api.Spec{Rules: []api.Rule{rule("S", "x", "E", "y")}, Start: "E"}, "S", "E", "x", "y")
	// One name in all of them.
	mustName(t, api.Spec{Tokens: []api.Token{b, a}, Rules: []api.Rule{rule("T", "x", "a"), rule("a", "a")}, Start: "a"}, "b", "a", "T", "x")
	mustName(t, api.Spec{Tokens: []api.Token{a}, Rules: []api.Rule{rule("a", "a")}, Start: "a"}, "a")
}

// A caller may make a specification of any names.
func TestNamesOfAnySort(t *testing.T) {
	mustName(t, api.Spec{Tokens: []api.Token{{}}}, "")
	mustName(t, api.Spec{Rules: []api.Rule{{}}}, "")
	mustName(t, api.Spec{Rules: []api.Rule{rule("S", "", "")}}, "S", "")
	mustName(t, api.Spec{Tokens: []api.Token{{Name: "a"}, {}}, Rules: []api.Rule{rule("", "")}}, "a", "")
	mustName(t, api.Spec{Rules: []api.Rule{rule("S", "a", "")}, Start: ""}, "S", "a", "")
	mustName(t, api.Spec{Tokens: []api.Token{{Name: "token"}, {Name: "A b"}, {Name: "\xff"}, {Name: "a"}, {Name: "A"}}, Rules: []api.Rule{rule("1", ";")}, Start: " "}, "token", "A b", "\xff", "a", "A", "1", " ", ";")
}

func TestNamesOfWhatIsRead(t *testing.T) {
	for text, want := range map[string][]string{
		"":                             {},
		"S : a | ;":                    {"S", "a"},
		"start S; S : a; token a /x/;": {"a", "S"},
		"S : b T | a; T : c; token a /x/; layout l / /; start E;": {"a", "l", "S", "T", "E", "b", "c"},
	} {
		s, _, _ := spec.Read(text)
		mustName(t, s, want...)
	}
}

func TestNamesOfDrawnSpecifications(t *testing.T) {
	s := drawn.Source(230)
	counts := map[int]int{}
	for range 5000 {
		read, _, _ := spec.Read(spread(&s, drawnWords(&s)))
		want := namesOf(read)
		mustName(t, read, want...)
		counts[len(want)]++
	}
	for n := range 7 {
		if counts[n] < 50 {
			t.Errorf("only %d have %d names", counts[n], n)
		}
	}
}

// No list is cut short.
func TestNamesOfMany(t *testing.T) {
	var s api.Spec
	var want, behind []string
	for i := range 20000 {
		name := strconv.Itoa(i)
		s.Tokens = append(s.Tokens, api.Token{Name: "t" + name})
		s.Rules = append(s.Rules, rule("l"+strconv.Itoa(i/2), "r"+name, "t"+name, "s"+name))
		want = append(want, "t"+name)
		behind = append(behind, "r"+name, "s"+name)
	}
	for i := range 10000 {
		want = append(want, "l"+strconv.Itoa(i))
	}
	s.Start = "s7"
	want = append(want, "s7")
	for _, name := range behind {
		if name != "s7" {
			want = append(want, name)
		}
	}
	mustName(t, s, want...)
}
