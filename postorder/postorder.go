// Package postorder has the subtrees of an expression's nodes, for the layers that print expressions and reckon them.
package postorder

import (
	"slices"

	"stratum/api"
)

// Subtree is a node with all that stands below it.
type Subtree struct {
	of   *expression
	root int
}

// expression is nodes in postorder, with what is known of each one's subtree.
type expression struct {
	nodes []api.Node
	first []int // where it begins
	depth []int
}

// Subtrees: those of the nodes from the front on, up to a node that can't stand in its place; and whether the nodes
// are an expression, however deep: each can stand in its place, and the last one's subtree is all of them.
func Subtrees(nodes []api.Node) ([]Subtree, bool) {
	x := &expression{nodes: nodes, first: make([]int, len(nodes)), depth: make([]int, len(nodes))}
	var all []Subtree
	for root, n := range nodes {
		kids, ok := kidsOf(n)
		if !ok || !x.join(root, kids) {
			return all, false
		}
		all = append(all, Subtree{x, root})
	}
	return all, len(all) > 0 && x.first[len(all)-1] == 0
}

// join makes the subtree of a node out of the last so many ahead of it, and answers whether there are so many.
func (x *expression) join(root int, kids int) bool {
	first, below := root, 0
	for range kids {
		if first == 0 {
			return false
		}
		below = max(below, x.depth[first-1])
		first = x.first[first-1]
	}
	x.first[root], x.depth[root] = first, below+1
	return true
}

// kidsOf: how many kids a node has, and whether it can stand in an expression at all.
func kidsOf(n api.Node) (int, bool) {
	kids := 0
	used := api.Node{Op: n.Op, At: n.At} // n without what its Op doesn't use
	switch n.Op {
	case api.ExNumber:
		used.Num = n.Num
	case api.ExText:
		used.Text = n.Text
	case api.ExTrue, api.ExFalse:
	case api.ExNeg, api.ExLen, api.ExHex:
		kids = 1
	case api.ExAdd, api.ExSub, api.ExMul, api.ExRep:
		kids = 2
	case api.ExCat:
		used.N = n.N
		kids = n.N
		if kids < 1 {
			return 0, false
		}
	default:
		return 0, false
	}
	return kids, n == used
}

// Place: where the subtree's node stands among the nodes.
func (s Subtree) Place() int {
	return s.root
}

// Node: the subtree's root.
func (s Subtree) Node() api.Node {
	return s.of.nodes[s.root]
}

// Depth: 1 without kids, else one more than the greatest of the kids.
func (s Subtree) Depth() int {
	return s.of.depth[s.root]
}

// Kids: the subtrees of the node's kids, in their order.
func (s Subtree) Kids() []Subtree {
	var kids []Subtree
	first := s.of.first
	// They are found from the last one on, which stands right ahead of its parent; the others each right ahead of the next.
	for at := s.root; at > first[s.root]; at = first[at-1] {
		kids = append(kids, Subtree{s.of, at - 1})
	}
	slices.Reverse(kids)
	return kids
}
