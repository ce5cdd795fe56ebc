package print

import (
	"slices"

	"stratum/api"
)

// expression is nodes in postorder, with what is known of each one's subtree.
type expression struct {
	nodes []api.Node
	first []int // where it begins
	depth []int
}

// subtree is a node with all that stands below it.
type subtree struct {
	of   *expression
	root int
}

func isExpression(nodes []api.Node) bool {
	_, ok := whole(nodes)
	return ok
}

// whole is the subtree that all nodes are together, however deep it is, and whether they are one.
func whole(nodes []api.Node) (subtree, bool) {
	x := &expression{nodes: nodes, first: make([]int, len(nodes)), depth: make([]int, len(nodes))}
	for root, n := range nodes {
		kids, ok := kidsOf(n)
		if !ok || !x.join(root, kids) {
			return subtree{}, false
		}
	}
	last := len(nodes) - 1
	if last < 0 || x.first[last] != 0 {
		return subtree{}, false
	}
	return subtree{x, last}, true
}

// join makes the subtree of a node out of the last so many ahead of it, and answers whether there are so many.
func (x *expression) join(root int, kids int) bool {
	first, below := root, 0
	for range kids {
		if first == 0 {
			return false
		}
		below = max(below, x.depth[first-1])
		first = x.first[first-1]
	}
	x.first[root], x.depth[root] = first, below+1
	return true
}

// kidsOf: how many kids a node has, and whether it can stand in an expression at all.
func kidsOf(n api.Node) (int, bool) {
	kids := 0
	used := api.Node{Op: n.Op, At: n.At} // n without what its Op doesn't use
	switch n.Op {
	case api.ExNumber:
		used.Num = n.Num
	case api.ExText:
		used.Text = n.Text
	case api.ExTrue, api.ExFalse:
	case api.ExNeg, api.ExLen, api.ExHex:
		kids = 1
	case api.ExAdd, api.ExSub, api.ExMul, api.ExRep:
		kids = 2
	case api.ExCat:
		used.N = n.N
		kids = n.N
		if kids < 1 {
			return 0, false
		}
	default:
		return 0, false
	}
	return kids, n == used
}

func (s subtree) node() api.Node {
	return s.of.nodes[s.root]
}

func (s subtree) depth() int {
	return s.of.depth[s.root]
}

// kids are found from the last one on, which stands right ahead of its parent; the others each right ahead of the next.
func (s subtree) kids() []subtree {
	var kids []subtree
	first := s.of.first
	for at := s.root; at > first[s.root]; at = first[at-1] {
		kids = append(kids, subtree{s.of, at - 1})
	}
	slices.Reverse(kids)
	return kids
}
