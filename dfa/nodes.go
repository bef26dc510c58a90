package dfa

import (
	"math/bits"
	"strconv"

	"foolscap/api"
	"foolscap/nfa"
)

// words is how many words of 64 bits have a bit for each node of a right expression.
const words = (nfa.MaxNodes + 63) / 64

// nodeSet is some of an expression's OpSet nodes, by their numbers.
type nodeSet [words]uint64

// only is the set of one node.
func only(node int) nodeSet {
	var s nodeSet
	s[node/64] = 1 << (node % 64)
	return s
}

// join puts what is in the other to it.
func (s *nodeSet) join(other *nodeSet) {
	for i, word := range other {
		s[i] |= word
	}
}

// and is what is in both.
func (s nodeSet) and(other nodeSet) nodeSet {
	for i := range s {
		s[i] &= other[i]
	}
	return s
}

// each goes through the nodes, rising.
func (s nodeSet) each(yield func(node int) bool) {
	for i, word := range s {
		for ; word != 0; word &= word - 1 {
			if !yield(i*64 + bits.TrailingZeros64(word)) {
				return
			}
		}
	}
}

// span is what a part of an expression shows to what stands around it: whether it can be
// empty, its First nodes, and those that it can end with.
type span struct {
	empty       bool
	first, ends nodeSet
}

// plan is an expression, by its OpSet nodes: these have numbers, in the order in which they
// stand, so that two that look the same are two.
type plan struct {
	span
	whole  bool
	takes  [api.MaxClasses]nodeSet // of each class the nodes that have it
	behind []nodeSet               // of each node those behind it
}

// planOf is the plan of an expression that is right.
func planOf(x Expr) *plan {
	p := &plan{whole: x.Whole}
	p.span = p.spanOf(x.Node)
	return p
}

// spanOf puts the OpSet nodes of n into the plan.
func (p *plan) spanOf(n api.Node) span {
	switch n.Op {
	case api.OpSet:
		return p.put(n.Classes)
	case api.OpSeq:
		return p.row(n.Parts)
	case api.OpAlt:
		return p.fork(n.Parts)
	case api.OpStar:
		s := p.spanOf(n.Parts[0])
		p.lead(s.ends, s.first)
		s.empty = true
		return s
	case api.OpOpt:
		s := p.spanOf(n.Parts[0])
		s.empty = true
		return s
	}
	return span{empty: true}
}

// put is one OpSet node more.
func (p *plan) put(classes []int) span {
	node := only(len(p.behind))
	p.behind = append(p.behind, nodeSet{})
	for _, class := range classes {
		p.takes[class].join(&node)
	}
	return span{first: node, ends: node}
}

// lead lets the nodes to come behind each of the nodes from.
func (p *plan) lead(from, to nodeSet) {
	for node := range from.each {
		p.behind[node].join(&to)
	}
}

// row is these, one behind the other.
func (p *plan) row(parts []api.Node) span {
	row := span{empty: true}
	for _, n := range parts {
		part := p.spanOf(n)
		p.lead(row.ends, part.first)
		if row.empty {
			row.first.join(&part.first)
		}
		if !part.empty {
			row.ends = nodeSet{}
		}
		row.ends.join(&part.ends)
		row.empty = row.empty && part.empty
	}
	return row
}

// fork is one of these.
func (p *plan) fork(parts []api.Node) span {
	var fork span
	for _, n := range parts {
		part := p.spanOf(n)
		fork.empty = fork.empty || part.empty
		fork.first.join(&part.first)
		fork.ends.join(&part.ends)
	}
	return fork
}

// spot is what a situation is to one expression alone: which of its nodes may come, and
// whether it fits.
type spot struct {
	nodes nodeSet
	fits  bool
}

// text is another one for each other spot.
func (s spot) text() string {
	b := strconv.AppendBool(nil, s.fits)
	for _, word := range s.nodes {
		b = append(b, ' ')
		b = strconv.AppendUint(b, word, 36)
	}
	return string(b)
}

// begin is the spot behind nothing.
func (p *plan) begin() spot {
	return spot{nodes: p.first, fits: p.empty}
}

// step is the spot behind one class more.
func (p *plan) step(from spot, class int) spot {
	var to spot
	if !p.whole {
		to = p.begin() // it may begin at each place
	}
	taken := from.nodes.and(p.takes[class])
	for node := range taken.each {
		to.nodes.join(&p.behind[node])
	}
	if taken.and(p.ends) != (nodeSet{}) {
		to.fits = true
	}
	return to
}
