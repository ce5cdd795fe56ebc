package postorder_test

import (
	"math"
	"slices"
	"testing"

	"stratum/api"
	"stratum/postorder"
)

func num(n uint64) api.Node { return api.Node{Op: api.ExNumber, Num: n} }
func cat(n int) api.Node    { return api.Node{Op: api.ExCat, N: n} }
func op(n int) api.Node     { return api.Node{Op: n} }

// wanted is what a subtree answers: how deep it is, and the places of its kids.
type wanted struct {
	depth int
	kids  []int
}

// wantSubtrees looks that there are these subtrees, and whether they are an expression.
func wantSubtrees(t *testing.T, nodes []api.Node, whole bool, all ...wanted) {
	t.Helper()
	got, gotWhole := postorder.Subtrees(nodes)
	if len(got) != len(all) || gotWhole != whole {
		t.Fatalf("%v: %d subtrees, %v, not %d, %v", nodes, len(got), gotWhole, len(all), whole)
	}
	for at, s := range got {
		var kids []int
		for _, k := range s.Kids() {
			kids = append(kids, k.Place())
		}
		if s.Place() != at || s.Node() != nodes[at] || s.Depth() != all[at].depth || !slices.Equal(kids, all[at].kids) {
			t.Errorf("%v at %d: %d, %v, %d, %v, not %v", nodes, at, s.Place(), s.Node(), s.Depth(), kids, all[at])
		}
	}
}

func TestSubtreesOfExpressions(t *testing.T) {
	leaf := wanted{depth: 1}
	wantSubtrees(t, []api.Node{num(1)}, true, leaf)
	wantSubtrees(t, []api.Node{num(1), op(api.ExNeg)}, true, leaf, wanted{2, []int{0}})
	wantSubtrees(t, []api.Node{num(1), num(2), num(3), op(api.ExMul), op(api.ExAdd)}, true, leaf, leaf, leaf, wanted{2, []int{1, 2}}, wanted{3, []int{0, 3}})
	wantSubtrees(t, []api.Node{num(1), op(api.ExLen), op(api.ExHex), num(2), cat(2), op(api.ExTrue), op(api.ExFalse), cat(3)}, true,
		leaf, wanted{2, []int{0}}, wanted{3, []int{1}}, leaf, wanted{4, []int{2, 3}}, leaf, leaf, wanted{5, []int{4, 5, 6}})
	deep := []wanted{leaf}
	nodes := []api.Node{num(1)}
	for i := range 1000 { // no depth is too much here
		nodes = append(nodes, op(api.ExNeg))
		deep = append(deep, wanted{i + 2, []int{i}})
	}
	wantSubtrees(t, nodes, true, deep...)
}

func TestSubtreesOfNoExpressions(t *testing.T) {
	leaf := wanted{depth: 1}
	wantSubtrees(t, nil, false)
	wantSubtrees(t, []api.Node{num(1), num(2)}, false, leaf, leaf)
	wantSubtrees(t, []api.Node{num(1), num(2), op(api.ExNeg)}, false, leaf, leaf, wanted{2, []int{1}})
	for _, bad := range []api.Node{
		op(0), op(13), op(-1), op(api.ExAdd), op(api.ExSub), op(api.ExMul), op(api.ExRep), cat(0), cat(-1), cat(2), cat(math.MaxInt), cat(math.MinInt),
		{Op: api.ExNumber, N: 1}, {Op: api.ExText, Num: 1}, {Op: api.ExTrue, Text: "x"}, {Op: api.ExNeg, N: 1}, {Op: api.ExCat, N: 1, Num: 1},
	} {
		wantSubtrees(t, []api.Node{num(1), bad}, false, leaf)
		wantSubtrees(t, []api.Node{num(1), bad, num(2)}, false, leaf)
		wantSubtrees(t, []api.Node{num(1), op(api.ExNeg), bad, bad, op(api.ExNeg)}, false, leaf, wanted{2, []int{0}})
	}
}
