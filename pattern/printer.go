package pattern

import (
	"strconv"
	"strings"

	"homograph/api"
	"homograph/byteset"
)

// The levels of the syntax, from the lowest precedence to the highest one.
const (
	levelAlt = iota
	levelAnd
	levelCat
	levelNot
	levelRep
)

const (
	nothing    = "[]"
	everything = "[^]*"
)

// halfOfAll is how many bytes a class may name before its complement is named.
const halfOfAll = 128

// printer writes patterns one behind the other.
type printer struct {
	out       strings.Builder
	operators map[times]byte
}

func (p *printer) show(n api.Node) {
	switch n = inner(n); n.Op {
	case api.OpSet:
		p.out.WriteString(Class(n.Set))
	case api.OpCat:
		p.row(n.Kids, "", levelNot)
	case api.OpAlt:
		p.rowOr(nothing, n.Kids, "|", levelAnd)
	case api.OpAnd:
		p.rowOr(everything, n.Kids, "&", levelCat)
	case api.OpNot:
		p.out.WriteByte('~')
		p.row(n.Kids, "", levelNot)
	case api.OpRep:
		p.row(n.Kids, "", levelRep)
		p.repetition(n.Min, n.Max)
	}
}

// rowOr writes Kids as row does; if there are none, a text that stands for that.
func (p *printer) rowOr(none string, kids []api.Node, separator string, least int) {
	if len(kids) == 0 {
		p.out.WriteString(none)
	}
	p.row(kids, separator, least)
}

// row writes Kids with a separator between them, those below a level in parentheses.
func (p *printer) row(kids []api.Node, separator string, least int) {
	for i, kid := range kids {
		if i > 0 {
			p.out.WriteString(separator)
		}
		if kid = inner(kid); level(kid) < least {
			p.group(kid)
		} else {
			p.show(kid)
		}
	}
}

func (p *printer) group(n api.Node) {
	p.out.WriteByte('(')
	p.show(n)
	p.out.WriteByte(')')
}

func (p *printer) repetition(least, most int) {
	// All that is below 0 stands for the same.
	most = max(most, unlimited)
	if op, ok := p.operators[times{least, most}]; ok {
		p.out.WriteByte(op)
		return
	}
	p.out.WriteString("{" + strconv.Itoa(least))
	if most != least {
		p.out.WriteByte(',')
	}
	if most != least && most != unlimited {
		p.out.WriteString(strconv.Itoa(most))
	}
	p.out.WriteByte('}')
}

// inner is the pattern for which n is printed: a list with one Kid is printed as that Kid.
func inner(n api.Node) api.Node {
	for isList(n) && len(n.Kids) == 1 {
		n = n.Kids[0]
	}
	return n
}

func isList(n api.Node) bool {
	return n.Op == api.OpCat || n.Op == api.OpAlt || n.Op == api.OpAnd
}

// level is that of the text of n.
func level(n api.Node) int {
	switch n.Op {
	case api.OpAlt:
		return levelOfList(n, levelAlt)
	case api.OpAnd:
		return levelOfList(n, levelAnd)
	case api.OpCat:
		return levelCat
	case api.OpNot:
		return levelNot
	}
	return levelRep
}

// levelOfList is that of an Alt or And; without Kids they are printed as what no operator divides.
func levelOfList(n api.Node, withKids int) int {
	if len(n.Kids) == 0 {
		return levelRep
	}
	return withKids
}

// writeClass writes a set in brackets.
func writeClass(out *strings.Builder, s api.Set) {
	out.WriteByte('[')
	if byteset.Count(s) > halfOfAll {
		out.WriteByte('^')
		s = byteset.Not(s)
	}
	for _, r := range byteset.Ranges(s) {
		writeRange(out, r[0], r[1])
	}
	out.WriteByte(']')
}

func writeRange(out *strings.Builder, lo, hi byte) {
	writeByte(out, lo, shownInClass)
	if hi-lo > 1 {
		out.WriteByte('-')
	}
	if hi > lo {
		writeByte(out, hi, shownInClass)
	}
}

// writeByte writes a byte as itself or as its escape.
func writeByte(out *strings.Builder, b byte, itself func(byte) bool) {
	if itself(b) {
		out.WriteByte(b)
		return
	}
	writeEscape(out, b)
}
