package pattern

import (
	"strconv"

	"homograph/api"
	"homograph/byteset"
	"homograph/regex"
)

// maxOpen is how many parentheses may be open at once.
const maxOpen = 32

// problem is what ends the parser: where the text does not conform to the syntax.
type problem struct{ at int }

func fail(at int) { panic(problem{at}) }

// parser reads a text from left to right.
type parser struct {
	text      string
	at        int // how far it has read
	open      int // parentheses
	operators map[byte]times
}

// parse is Parse for a text that isn't too long.
func parse(s string) (n api.Node, e api.Errno, at int) {
	defer func() {
		if p, ok := recover().(problem); ok {
			n, e, at = api.Node{}, api.ErrPattern, p.at
		}
	}()
	p := parser{text: s, operators: operators()}
	return p.whole(), api.OK, 0
}

// whole reads the text up to its end.
func (p *parser) whole() api.Node {
	n := p.pattern()
	// A `)` that closes nothing ends the pattern ahead of the text's end.
	if !p.atEnd() {
		fail(p.at)
	}
	if regex.Check(n) != api.OK {
		fail(len(p.text))
	}
	return n
}

func (p *parser) pattern() api.Node { return p.row(api.OpAlt, '|', p.conjunction) }

func (p *parser) conjunction() api.Node { return p.row(api.OpAnd, '&', p.sequence) }

// row reads parts up to where no separator follows.
func (p *parser) row(op int, separator byte, part func() api.Node) api.Node {
	parts := []api.Node{part()}
	for p.skip(separator) {
		parts = append(parts, part())
	}
	return joined(op, parts)
}

// sequence reads items up to what can only stand behind them.
func (p *parser) sequence() api.Node {
	var items []api.Node
	for !p.atEnd() && !p.sees('|') && !p.sees('&') && !p.sees(')') {
		items = append(items, p.item())
	}
	return joined(api.OpCat, items)
}

// item reads an atom with what stands ahead of it and behind it.
func (p *parser) item() api.Node {
	nots := 0
	for p.skip('~') {
		nots++
	}
	n := p.atom()
	for t, ok := p.repetition(); ok; t, ok = p.repetition() {
		n = over(api.OpRep, n)
		n.Min, n.Max = t.least, t.most
	}
	for range nots {
		n = over(api.OpNot, n)
	}
	return n
}

func (p *parser) atom() api.Node {
	switch {
	case p.sees('('):
		return p.group()
	case p.skip('['):
		return regex.Set(p.class())
	case p.skip('.'):
		return regex.Set(anyOfLine())
	}
	b := p.oneByte(plain)
	return regex.Set(byteset.Range(b, b))
}

// group reads a pattern in parentheses.
func (p *parser) group() api.Node {
	if p.open == maxOpen {
		fail(p.at)
	}
	p.expect('(')
	p.open++
	n := p.pattern()
	p.expect(')')
	p.open--
	return n
}

// class reads what stands behind a `[`.
func (p *parser) class() api.Set {
	complement := p.skip('^')
	var s api.Set
	for !p.skip(']') {
		s = byteset.Union(s, p.element())
	}
	if complement {
		return byteset.Not(s)
	}
	return s
}

// element reads a byte or a range of a class.
func (p *parser) element() api.Set {
	start := p.at
	lo := p.oneByte(plainInClass)
	hi := lo
	if p.skip('-') {
		hi = p.oneByte(plainInClass)
	}
	if hi < lo {
		fail(start)
	}
	return byteset.Range(lo, hi)
}

// oneByte reads a byte that stands for itself, or an escape.
func (p *parser) oneByte(itself func(byte) bool) byte {
	if p.sees('\\') {
		b, length := unescape(p.text[p.at:])
		if length == 0 {
			fail(p.at)
		}
		p.at += length
		return b
	}
	if p.atEnd() || !itself(p.text[p.at]) {
		fail(p.at)
	}
	p.at++
	return p.text[p.at-1]
}

// repetition reads a repetition operator, if there is one.
func (p *parser) repetition() (times, bool) {
	if p.atEnd() {
		return times{}, false
	}
	if p.skip('{') {
		return p.count(), true
	}
	t, ok := p.operators[p.text[p.at]]
	if ok {
		p.at++
	}
	return t, ok
}

// count reads what stands behind a `{`.
func (p *parser) count() times {
	start := p.at
	least := p.number()
	most := least
	if p.skip(',') {
		most = p.upperLimit()
	}
	if most != unlimited && most < least {
		fail(start)
	}
	p.expect('}')
	return times{least, most}
}

func (p *parser) upperLimit() int {
	if p.sees('}') {
		return unlimited
	}
	return p.number()
}

// number reads all digits that stand next to each other.
func (p *parser) number() int {
	start := p.at
	for !p.atEnd() && digit(p.text[p.at]) {
		p.at++
	}
	n, err := strconv.Atoi(p.text[start:p.at])
	if err != nil || p.at-start > 2 || n > api.MaxRep {
		fail(start)
	}
	return n
}

func (p *parser) atEnd() bool { return p.at == len(p.text) }

// sees tells whether b is the next byte.
func (p *parser) sees(b byte) bool { return !p.atEnd() && p.text[p.at] == b }

// skip reads b if it is the next byte, and tells whether it was.
func (p *parser) skip(b byte) bool {
	is := p.sees(b)
	if is {
		p.at++
	}
	return is
}

// expect reads b, for which nothing else can stand here.
func (p *parser) expect(b byte) {
	if !p.skip(b) {
		fail(p.at)
	}
}

// joined is a node of a kind over its Kids; a single one stands for itself.
func joined(op int, kids []api.Node) api.Node {
	if len(kids) == 1 {
		return kids[0]
	}
	return api.Node{Op: op, Kids: kids}
}

// over is a node of a kind over its only Kid.
// The Kid isn't copied, as package regex would: a long row of operators would then take a copy of all below it for each of them.
func over(op int, kid api.Node) api.Node {
	return api.Node{Op: op, Kids: []api.Node{kid}}
}
