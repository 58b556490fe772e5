package drawn

// PatternTexts are the texts of patterns of all kinds, the edges first.
func PatternTexts() []string {
	return []string{
		"", "()", "[]", "[^]*", "[^]", ".", "a", "[ab]", "~a", "~~a", "~()", "~[]", "~[^]*", "~~~[^]", "~~[]",
		"ab", "a()b", "a|b", "a|", "|", "a|ab|abb", "a&a", "a&b", "[ab]*&~b", "[ab]&[bc]", "&", "(ab|a)(b|)", "ab|ac", "ab|cb|ab",
		"a*", "a+", "a?", "a{0}", "a{1}", "a{2}", "a{2,}", "a{0,2}", "a{2,3}", "a{32}", "a{0,32}", "a{3,32}", "a{1,3}",
		"()*", "()+", "(){3}", "(){3,5}", "[]*", "[]+", "[]?", "[]{2,}", "([^]*)*", "([^]*){2}",
		"(a*)*", "(a+)+", "(a?)+", "(a?){2}", "(a?){3,}", "(a?){2,3}", "(a*){2}", "(a|){3,4}", "(a{2}){2}", "(a{2,3}){2,3}", "a{1}{1}",
		"(a|aa)*", "(a|aa){2}", "(a|aa){2,3}", "(aa|aaa){2,}", "(ab|a|b){3}", "((a|bb){2}|b){2}", "((a|b){1,2}b){1,2}",
		"(~a)*", "(~a)+", "(~a){2}", "(~()){2}", "(~()){2,3}", "~(a*)", "~a*", "~(a*)b", "a~b", "~ab", "a~bc", "~a~b", "~(~ab)", "~(a~b)", "(a~b)*", "~((~a)*)", "~(~a{2})", "~(.*~(a.*))",
		"[ab]*&[bc]*", "(a|ab)&(ab|b)", "(a*&~())*", "(a*&~(aa))*", "a([ab]*&~(.*bb.*))", "(a&~b|b&~a)*", "~(a*)&~(b*)", "(a*&(aa)*)b", "(aa)*&(aaa)*",
		"(a*b?)*", "(a*b?){2,3}", "(ab?)*c", ".*b.*", ".*a", "a.*", ".*(ab|ba)", "(b|ab)*&.{2}", "a?a?a", "a?b?c?", "(a*b*)(b*c*)", "(a?b)?(a?b)?",
		"~(ab)|ac", "~(ab)&ac", "ab&ac", "(ab&ac)|bc", "~(ab&ac)&b*", "~(a~[])b*", "~[]a", "(~[])*", "a~[]|b", "[^]*a[^]*",
	}
}

// Texts are all texts of at most so many of the bytes of an alphabet.
func Texts(alphabet string, most int) []string {
	l := []string{""}
	for i := 0; len(l[i]) < most; i++ {
		// By index, because a range over a string would give runes.
		for j := range len(alphabet) {
			l = append(l, l[i]+alphabet[j:j+1])
		}
	}
	return l
}
