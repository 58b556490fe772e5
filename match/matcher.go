package match

import (
	"homograph/api"
	"homograph/byteset"
	"homograph/regex"
)

// maxLevels is more than a valid pattern has: a derivative may be deeper, and is matched too.
const maxLevels = 1 << 16

// offsets are places in a text.
type offsets = set[int]

// part is a node of a pattern, and what is known of it in one text.
type part struct {
	op          int
	bytes       api.Set
	least, most int
	kids        []*part
	// known is the ends from sets of offsets, by the texts of these, where a part may be asked for the same ones again.
	// Without it parts would be matched from the same offsets ever more often, the deeper they stand in others.
	known map[string]offsets
}

// newPart is the part of a node; false: it has more levels than are left, as a node that holds itself has.
func newPart(n api.Node, levels int, inRep bool) (*part, bool) {
	if levels == 0 {
		return nil, false
	}
	p := &part{op: n.Op, bytes: n.Set, least: n.Min, most: n.Max}
	for _, kid := range n.Kids {
		q, ok := newPart(kid, levels-1, inRep || n.Op == api.OpRep)
		if !ok {
			return nil, false
		}
		p.kids = append(p.kids, q)
	}
	// Where the empty text will do, all pieces that Min asks for may be empty.
	if n.Op == api.OpRep && regex.Null(n) {
		p.least = 0
	}
	// A Rep that isn't inside another one is asked once only, and from long sets.
	if n.Op == api.OpAnd || n.Op == api.OpNot || n.Op == api.OpRep && inRep {
		p.known = map[string]offsets{}
	}
	return p, true
}

// once is what find tells of a part from some offsets, asked once for the same ones.
func (p *part) once(from offsets, find func(*part, offsets) offsets) offsets {
	if p.known == nil {
		return find(p, from)
	}
	text := from.text()
	to, ok := p.known[text]
	if !ok {
		to = find(p, from)
		p.known[text] = to
	}
	return to
}

// repeatsBytes tells whether a Rep is of one Set, as often as may be.
func (p *part) repeatsBytes() bool {
	return p.most < 0 && len(p.kids) == 1 && p.kids[0].op == api.OpSet
}

// matcher matches a pattern against one text.
type matcher struct {
	root *part
	text string
}

func newMatcher(n api.Node, s string) matcher {
	root, ok := newPart(n, maxLevels, false)
	if !ok {
		// Nothing is promised of such a pattern, but matching it has to end.
		root = &part{op: api.OpAlt}
	}
	return matcher{root, s}
}

// endsFrom is the ends from one offset; there are none from one that isn't in the text.
func (m matcher) endsFrom(at int) offsets {
	if at < 0 || at > len(m.text) {
		return offsets{}
	}
	return m.ends(m.root, span(at, at))
}

// longest is the last end from an offset; false: there is none.
func (m matcher) longest(at int) (int, bool) { return m.endsFrom(at).last() }

// ends is the places up to which a part matches from any of some offsets.
// Taking many offsets at once keeps a repetition from going through the same stretch of the text from each of them.
func (m matcher) ends(p *part, from offsets) offsets {
	if from.empty() {
		return offsets{}
	}
	switch p.op {
	case api.OpSet:
		return m.oneByte(p, from)
	case api.OpCat:
		return m.row(p.kids, from)
	case api.OpAlt:
		return m.either(p, from)
	case api.OpRep:
		return p.once(from, m.times)
	case api.OpAnd:
		return m.alone(p, from, m.both)
	case api.OpNot:
		return m.alone(p, from, m.other)
	}
	return offsets{}
}

// oneByte is the places behind one byte of a Set.
func (m matcher) oneByte(p *part, from offsets) offsets {
	var to offsets
	for at := range from.all() {
		if at < len(m.text) && byteset.Has(p.bytes, m.text[at]) {
			to.add(at+1, at+1)
		}
	}
	return to
}

// row is the ends of parts, one behind the other.
func (m matcher) row(l []*part, from offsets) offsets {
	for _, p := range l {
		from = m.ends(p, from)
	}
	return from
}

// either is the ends of an Alt.
func (m matcher) either(p *part, from offsets) offsets {
	var to offsets
	for _, kid := range p.kids {
		to.join(m.ends(kid, from))
	}
	return to
}

// times is the ends of a Rep.
func (m matcher) times(p *part, from offsets) offsets {
	at := from
	for k := 0; k < p.least && !at.empty(); k++ {
		at = m.row(p.kids, at)
	}
	if p.repeatsBytes() {
		return m.stretch(p.kids[0].bytes, at)
	}
	var to offsets
	to.join(at)
	fresh := at
	for k := p.least; (p.most < 0 || k < p.most) && !fresh.empty(); k++ {
		fresh = m.row(p.kids, fresh).minus(to)
		to.join(fresh)
	}
	return to
}

// stretch is the places that can be reached by bytes of a set alone: the commonest of repetitions, so it makes no set for each byte.
func (m matcher) stretch(bytes api.Set, from offsets) offsets {
	var to offsets
	for at := range from.all() {
		if last, ok := to.last(); ok && at <= last {
			continue
		}
		end := at
		for end < len(m.text) && byteset.Has(bytes, m.text[end]) {
			end++
		}
		to.add(at, end)
	}
	return to
}

// alone is what find tells from each offset by itself: the ends that an And or a Not takes away from one offset may be those of another one.
func (m matcher) alone(p *part, from offsets, find func(*part, offsets) offsets) offsets {
	var to offsets
	for at := range from.all() {
		to.join(p.once(span(at, at), find))
	}
	return to
}

// both is the ends of an And from one offset.
func (m matcher) both(p *part, from offsets) offsets {
	to := m.upToEnd(from)
	for _, kid := range p.kids {
		to = to.minus(to.minus(m.ends(kid, from)))
	}
	return to
}

// other is the ends of a Not from one offset.
func (m matcher) other(p *part, from offsets) offsets {
	return m.upToEnd(from).minus(m.row(p.kids, from))
}

// upToEnd is all places from one offset up to the end of the text.
func (m matcher) upToEnd(from offsets) offsets {
	at, _ := from.last()
	return span(at, len(m.text))
}
