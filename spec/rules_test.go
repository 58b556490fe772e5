package spec_test

import (
	"slices"
	"strings"
	"testing"
	"unsafe"

	"homograph/api"
	"homograph/drawn"
	"homograph/spec"
)

// Rule 3: arguments are neither modified nor retained, and results are in new memory.

// share tells whether two texts have a byte in memory in common.
func share(a, b string) bool {
	aFrom, bFrom := uintptr(unsafe.Pointer(unsafe.StringData(a))), uintptr(unsafe.Pointer(unsafe.StringData(b)))
	return a != "" && b != "" && aFrom < bFrom+uintptr(len(b)) && bFrom < aFrom+uintptr(len(a))
}

// mustBeApart holds that no text of one list lies in the same memory as one of another list.
func mustBeApart(t *testing.T, l, others []string) {
	t.Helper()
	for _, text := range l {
		for _, other := range others {
			if share(text, other) {
				t.Fatalf("the texts %.50q and %.50q lie in the same memory", text, other)
			}
		}
	}
}

// textsOf are all texts of a specification.
func textsOf(s api.Spec) []string {
	l := []string{s.Start}
	for _, t := range s.Tokens {
		l = append(l, t.Name)
	}
	for _, r := range s.Rules {
		l = append(append(l, r.Left), r.Right...)
	}
	return l
}

// copyOf is a specification in new memory.
func copyOf(s api.Spec) api.Spec {
	s.Start = strings.Clone(s.Start)
	s.Tokens = slices.Clone(s.Tokens)
	for i, t := range s.Tokens {
		s.Tokens[i].Name, s.Tokens[i].Pattern = strings.Clone(t.Name), drawn.Roomy(t.Pattern)
	}
	s.Rules = slices.Clone(s.Rules)
	for i, r := range s.Rules {
		s.Rules[i] = rule(strings.Clone(r.Left))
		for _, name := range r.Right {
			s.Rules[i].Right = append(s.Rules[i].Right, strings.Clone(name))
		}
	}
	return s
}

// spoilNames overwrites the whole room of a list.
func spoilNames(l []string) {
	l = l[:cap(l)]
	for i := range l {
		l[i] = "spoiled"
	}
}

// spoil overwrites the whole room of a specification's lists.
func spoil(s api.Spec) {
	for _, t := range s.Tokens {
		drawn.Spoil(t.Pattern)
	}
	for _, r := range s.Rules {
		spoilNames(r.Right)
	}
	tokens, rules := s.Tokens[:cap(s.Tokens)], s.Rules[:cap(s.Rules)]
	for i := range tokens {
		tokens[i] = token("spoiled", "s*")
	}
	for i := range rules {
		rules[i] = rule("spoiled", "s")
	}
}

// sharesLists tells whether two lists of a specification share memory, which spoils it.
func sharesLists(s api.Spec) bool {
	want := copyOf(s)
	for i := range s.Tokens {
		drawn.Spoil(s.Tokens[i].Pattern)
		s.Tokens[i], want.Tokens[i] = api.Token{}, api.Token{}
		if !sameSpecs(s, want) {
			return true
		}
	}
	for i := range s.Rules {
		spoilNames(s.Rules[i].Right)
		s.Rules[i], want.Rules[i] = api.Rule{}, api.Rule{}
		if !sameSpecs(s, want) {
			return true
		}
	}
	return false
}

// sources are texts of specifications in new memory, those first that have the same thing several times.
func sources(seed drawn.Source) []string {
	l := []string{
		"token a /xy|z/; token b /xy|z/; layout c /xy|z/;", "token a /(xy){2}/ longest; token a /(xy){2}/ longest;", "start S; S : S S | S S | ; S : S S;",
		"a : b c d e f g h i | b c d e f g h i;", "S:||||;", "start a;",
	}
	for range 2000 {
		l = append(l, spread(&seed, drawnWords(&seed)))
	}
	return l
}

func TestTextsAreNotKept(t *testing.T) {
	s := drawn.Source(235)
	for _, text := range sources(236) {
		if s.Below(3) == 0 {
			text += anyWord(&s)
		}
		want, e, at := readOf(strings.Clone(text))
		isReserved := spec.Reserved(strings.Clone(text))
		b := []byte(text + "!")
		arg := unsafe.String(&b[0], len(text))
		got, f, gotAt := spec.Read(arg)
		reserved := spec.Reserved(arg)
		if string(b) != text+"!" {
			t.Fatalf("a call modified %q", text)
		}
		mustBeApart(t, textsOf(got), []string{arg})
		for i := range b {
			b[i] = 'q'
		}
		if !sameSpecs(got, want) || e != f || at != gotAt {
			t.Fatalf("Read(%q) = %v, %d, %d, want %v, %d, %d", text, got, f, gotAt, want, e, at)
		}
		if reserved != isReserved {
			t.Fatalf("Reserved(%q) = %t", text, reserved)
		}
	}
}

func TestSpecificationsAreApart(t *testing.T) {
	for _, text := range sources(237) {
		first, _, _ := spec.Read(text)
		second, e, at := spec.Read(text)
		want := copyOf(second)
		mustBeApart(t, textsOf(first), textsOf(second))
		spoil(first)
		if !sameSpecs(second, want) {
			t.Fatalf("Read(%q) changed with an earlier result", text)
		}
		if third, f, again := spec.Read(text); !sameSpecs(third, want) || e != f || at != again {
			t.Fatalf("Read(%q) = %v, %d, %d, and then %v, %d, %d", text, want, e, at, third, f, again)
		}
		if sharesLists(second) {
			t.Fatalf("two lists of Read(%q) share memory", text)
		}
	}
}

// roomy is a specification in new memory, whose lists all have more room than they use, with names beyond their ends.
func roomy(s api.Spec) api.Spec {
	s = copyOf(s)
	s.Tokens = append(s.Tokens, token("beyond", "b"), token("a", "b"))[:len(s.Tokens)]
	for i, r := range s.Rules {
		s.Rules[i].Right = append(r.Right, "beyond", "a")[:len(r.Right)]
	}
	s.Rules = append(s.Rules, rule("beyond", "further"), rule("a", "b"))[:len(s.Rules)]
	return s
}

// wholeRoom is all that a roomy specification has, also beyond the ends of its lists, in new memory.
func wholeRoom(s api.Spec) api.Spec {
	all := api.Spec{Tokens: s.Tokens[:len(s.Tokens)+2], Rules: slices.Clone(s.Rules[:len(s.Rules)+2]), Start: s.Start}
	for i, r := range s.Rules {
		all.Rules[i].Right = r.Right[:len(r.Right)+2]
	}
	return copyOf(all)
}

func TestSpecificationsAreNotModified(t *testing.T) {
	for _, text := range sources(238) {
		read, _, _ := spec.Read(text)
		arg := roomy(read)
		before, want := wholeRoom(arg), namesOf(read)
		got := spec.Names(arg)
		if !slices.Equal(got, want) {
			t.Fatalf("Names(%v) = %q, want %q", read, got, want)
		}
		if !sameSpecs(wholeRoom(arg), before) {
			t.Fatalf("Names(%v) modified its argument", read)
		}
		mustBeApart(t, got, textsOf(arg))
		spoil(arg)
		if !slices.Equal(got, want) {
			t.Fatalf("Names(%v) changed with its argument", read)
		}
	}
}

func TestNamesAreApart(t *testing.T) {
	for _, text := range sources(239) {
		read, _, _ := spec.Read(text)
		first, second := spec.Names(read), spec.Names(read)
		want := namesOf(read)
		mustBeApart(t, first, second)
		spoilNames(first)
		if !slices.Equal(second, want) {
			t.Fatalf("Names(%v) changed with an earlier result", read)
		}
		mustName(t, read, want...)
	}
}

// What is behind the end of a list must not count as its own.
func TestNamesBeyondTheEnd(t *testing.T) {
	tokens := []api.Token{token("a", "x"), token("b", "y")}
	rules := []api.Rule{rule("S", "c"), rule("T", "d")}
	mustName(t, api.Spec{Tokens: tokens[:1], Rules: rules[:1]}, "a", "S", "c")
	mustName(t, api.Spec{Tokens: tokens[:0], Rules: rules[:0]})
	mustName(t, api.Spec{Rules: []api.Rule{{Left: "S", Right: []string{"a", "b"}[:1]}}}, "S", "a")
}
