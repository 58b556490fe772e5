package pattern_test

import (
	"regexp"
	"strconv"
	"strings"

	"homograph/api"
	"homograph/byteset"
	"homograph/regex"
)

// The chapter's syntax once more, by other means than a parser of items in items: the first problem by a scan of the flat text, the tree by splitting.

const metas = `()[]{}|&*+?.~\/`

var (
	escapeForm = regexp.MustCompile("^\\\\(?:[ntr]|x[0-9a-f][0-9a-f]|[!-/:-@[-`{-~])")
	digitsForm = regexp.MustCompile(`^[0-9]*`)
	tokenForm  = regexp.MustCompile(`\\x..|\\.|\[(?:\\x..|\\.|[^\\\]])*\]|\{[^}]*\}|.`)
	rangeForm  = regexp.MustCompile(`(\\x..|\\.|.)(?:-(\\x..|\\.|.))?`)
)

func isPlain(b byte) bool { return b >= 32 && b <= 126 && !strings.Contains(metas, string(rune(b))) }

// firstProblem is the offset of the first problem of a text, or -1; nesting that is too deep for Check is not its matter.
func firstProblem(s string) int {
	open, needsAtom, hasAtom := 0, false, false
	for i := 0; i < len(s); {
		length, bad := 1, -1
		switch b := s[i]; {
		case b == '~':
			needsAtom, hasAtom = true, false
		case b == '(':
			if open == 32 {
				return i
			}
			open++
			needsAtom, hasAtom = false, false
		case b == ')' && open > 0 && !needsAtom:
			open--
			hasAtom = true
		case (b == '|' || b == '&') && !needsAtom:
			hasAtom = false
		case (b == '*' || b == '+' || b == '?') && hasAtom:
		case b == '{' && hasAtom:
			length, bad = scanCount(s, i)
		case b == '[':
			length, bad = scanClass(s, i)
			needsAtom, hasAtom = false, true
		case b == '.' || isPlain(b) || escapeForm.MatchString(s[i:]):
			length = max(1, len(escapeForm.FindString(s[i:])))
			needsAtom, hasAtom = false, true
		default:
			return i
		}
		if bad >= 0 {
			return bad
		}
		i += length
	}
	if open > 0 || needsAtom {
		return len(s)
	}
	return -1
}

// scanCount is the length of the count in braces at an offset, and its problem or -1.
func scanCount(s string, at int) (int, int) {
	i := at + 1
	m, mLength := scanNumber(s[i:])
	if m < 0 {
		return 0, i
	}
	i += mLength
	if strings.HasPrefix(s[i:], ",") && !strings.HasPrefix(s[i:], ",}") {
		i++
		n, nLength := scanNumber(s[i:])
		if n < 0 {
			return 0, i
		}
		if n < m {
			return 0, at + 1
		}
		i += nLength
	} else if strings.HasPrefix(s[i:], ",}") {
		i++
	}
	if !strings.HasPrefix(s[i:], "}") {
		return 0, i
	}
	return i + 1 - at, -1
}

// scanNumber is the number at the beginning of a text, below 0 if there is no valid one, and its length.
func scanNumber(s string) (int, int) {
	digits := digitsForm.FindString(s)
	n, err := strconv.Atoi(digits)
	if err != nil || len(digits) > 2 || n > 32 {
		return -1, 0
	}
	return n, len(digits)
}

// scanClass is the length of the class at an offset, and its problem or -1.
func scanClass(s string, at int) (int, int) {
	i := at + 1
	if strings.HasPrefix(s[i:], "^") {
		i++
	}
	for !strings.HasPrefix(s[i:], "]") {
		first := i
		lo, length := scanClassByte(s[i:])
		if length == 0 {
			return 0, i
		}
		i += length
		if !strings.HasPrefix(s[i:], "-") {
			continue
		}
		i++
		hi, length := scanClassByte(s[i:])
		if length == 0 {
			return 0, i
		}
		if hi < lo {
			return 0, first
		}
		i += length
	}
	return i + 1 - at, -1
}

func scanClassByte(s string) (byte, int) {
	if escape := escapeForm.FindString(s); escape != "" {
		return meaning(escape), len(escape)
	}
	if s == "" || s[0] < 32 || s[0] > 126 || strings.Contains(`]\^-`, s[:1]) {
		return 0, 0
	}
	return s[0], 1
}

// meaning is the byte of a byte's valid spelling.
func meaning(spelling string) byte {
	if spelling[0] != '\\' {
		return spelling[0]
	}
	switch spelling[1] {
	case 'n':
		return 10
	case 't':
		return 9
	case 'r':
		return 13
	case 'x':
		n, _ := strconv.ParseUint(spelling[2:], 16, 8)
		return byte(n)
	}
	return spelling[1]
}

// tree is the pattern of a text without problems.
func tree(s string) api.Node { return treeOf(tokenForm.FindAllString(s, -1)) }

func treeOf(tokens []string) api.Node {
	if parts := split(tokens, "|"); len(parts) > 1 {
		return regex.Alt(eachTree(parts)...)
	}
	if parts := split(tokens, "&"); len(parts) > 1 {
		return regex.And(eachTree(parts)...)
	}
	items := splitItems(tokens)
	if len(items) == 1 {
		return itemTree(items[0])
	}
	var l []api.Node
	for _, item := range items {
		l = append(l, itemTree(item))
	}
	return regex.Cat(l...)
}

func eachTree(parts [][]string) []api.Node {
	var l []api.Node
	for _, part := range parts {
		l = append(l, treeOf(part))
	}
	return l
}

// split divides tokens at the separators that stand in no parentheses.
func split(tokens []string, separator string) [][]string {
	parts, open := [][]string{nil}, 0
	for _, token := range tokens {
		open += opens(token)
		if open == 0 && token == separator {
			parts = append(parts, nil)
			continue
		}
		parts[len(parts)-1] = append(parts[len(parts)-1], token)
	}
	return parts
}

func opens(token string) int {
	return strings.Count("(", token) - strings.Count(")", token)
}

// splitItems divides tokens ahead of each one, in no parentheses, that begins an item.
func splitItems(tokens []string) [][]string {
	var items [][]string
	open := 0
	for i, token := range tokens {
		begins := open == 0 && !isOperator(token) && (i == 0 || tokens[i-1] != "~")
		open += opens(token)
		if begins {
			items = append(items, nil)
		}
		items[len(items)-1] = append(items[len(items)-1], token)
	}
	return items
}

func isOperator(token string) bool { return strings.Contains("*+?{", token[:1]) }

// itemTree takes an item apart from its outside: what stands ahead of it covers what stands behind it.
func itemTree(item []string) api.Node {
	last := item[len(item)-1]
	switch {
	case item[0] == "~":
		return regex.Not(itemTree(item[1:]))
	case len(item) > 1 && isOperator(last):
		least, most := operatorTimes(last)
		return regex.Rep(itemTree(item[:len(item)-1]), least, most)
	case item[0] == "(":
		return treeOf(item[1 : len(item)-1])
	}
	return regex.Set(tokenSet(item[0]))
}

func operatorTimes(token string) (int, int) {
	switch token {
	case "*":
		return 0, -1
	case "+":
		return 1, -1
	case "?":
		return 0, 1
	}
	first, second, two := strings.Cut(strings.Trim(token, "{}"), ",")
	m, _ := strconv.Atoi(first)
	n, err := strconv.Atoi(second)
	if !two {
		return m, m
	}
	if err != nil {
		return m, -1
	}
	return m, n
}

func tokenSet(token string) api.Set {
	if token == "." {
		return byteset.Not(byteset.Of("\n"))
	}
	if token[0] != '[' {
		return byteset.Of(string([]byte{meaning(token)}))
	}
	body, complement := strings.CutPrefix(token[1:len(token)-1], "^")
	var s api.Set
	for _, element := range rangeForm.FindAllStringSubmatch(body, -1) {
		lo := meaning(element[1])
		hi := lo
		if element[2] != "" {
			hi = meaning(element[2])
		}
		s = byteset.Union(s, byteset.Range(lo, hi))
	}
	if complement {
		return byteset.Not(s)
	}
	return s
}
