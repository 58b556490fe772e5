package regex

import (
	"homograph/api"
	"homograph/byteset"
)

// counters are what is known of the nodes that a traversal has entered.
type counters struct {
	nodes int     // entered so far
	depth int     // entered and not yet left
	bytes api.Set // of the Sets entered so far
}

func (c *counters) enter(n api.Node) {
	c.nodes++
	c.depth++
	// Another kind's Set has no meaning, whatever stands in it.
	if n.Op == api.OpSet {
		c.bytes = byteset.Union(c.bytes, n.Set)
	}
}

func (c *counters) leave() { c.depth-- }

// traversal goes through a pattern, and counts on its way.
type traversal struct {
	counters
}

// walk enters n and all nodes below it as long as goOn holds, and tells whether it held for all of them.
// It ends at the first one for which goOn fails, so that even a pattern that holds itself has an end where goOn limits the depth.
func (t *traversal) walk(n api.Node, goOn func(api.Node) bool) bool {
	t.enter(n)
	if !goOn(n) {
		return false
	}
	for _, kid := range n.Kids {
		if !t.walk(kid, goOn) {
			return false
		}
	}
	t.leave()
	return true
}

// always is for what concerns every node, however deep.
func always(api.Node) bool { return true }
