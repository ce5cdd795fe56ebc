package expr_test

import (
	"math"
	"slices"
	"testing"

	"stratum/api"
	"stratum/expr"
	"stratum/parse"
	"stratum/print"
)

// P11.1

// numbersOf are so many expressions, each a number.
func numbersOf(n int) [][]api.Node {
	return slices.Repeat([][]api.Node{nodes(num(1))}, n)
}

// lean is n over kids that are numbers, but for the one at a place.
func lean(n api.Node, kids int, place int, kid []api.Node) []api.Node {
	all := numbersOf(kids)
	all[place] = kid
	return over(n, all...)
}

// deepOf is an expression of this depth, each of whose nodes with kids is n, one at a place of the other's kids.
func deepOf(n api.Node, kids int, place int, depth int) []api.Node {
	l := nodes(num(1))
	for range depth - 1 {
		l = lean(n, kids, place, l)
	}
	return l
}

func TestChecksOfTheChapter(t *testing.T) {
	wantCheck(t, nil, 0, api.ErrArg)
	wantCheck(t, nodes(num(1), num(2)), 2, api.ErrArg)
	wantCheck(t, nodes(op(api.ExAdd)), 0, api.ErrArg)
	wantCheck(t, nodes(api.Node{Op: api.ExNumber, N: 1}), 0, api.ErrArg)
	wantCheck(t, nodes(api.Node{Op: api.ExNumber, Text: "x"}), 0, api.ErrArg)
	wantCheck(t, deepOf(op(api.ExNeg), 1, 0, 101), 100, api.ErrDepth)
	wantCheck(t, deepOf(op(api.ExNeg), 1, 0, 100), 0, api.OK)
}

func TestEachNodeAloneAndOverKids(t *testing.T) {
	for n, kids := range ops() {
		if kids == 0 {
			wantCheck(t, nodes(n), 0, api.OK)
		} else {
			wantNone(t, nodes(n), 0, api.ErrArg)
		}
		wantCheck(t, over(n, numbersOf(kids)...), 0, api.OK)
		for inner, innerKids := range ops() {
			below := over(inner, numbersOf(innerKids)...)
			for place := range kids {
				wantCheck(t, lean(n, kids, place, below), 0, api.OK)
			}
			wantCheck(t, over(n, slices.Repeat([][]api.Node{below}, kids)...), 0, api.OK)
		}
	}
}

func TestNoNode(t *testing.T) {
	wantNone(t, nil, 0, api.ErrArg)
	wantNone(t, []api.Node{}, 0, api.ErrArg)
	wantNone(t, nodes(num(1), num(2))[:0], 0, api.ErrArg)
}

func TestSubtreesTooMany(t *testing.T) {
	for n, kids := range ops() {
		right := over(n, numbersOf(kids)...)
		for other, otherKids := range ops() {
			ahead := over(other, numbersOf(otherKids)...)
			for _, more := range []int{0, 1, 7} {
				all := slices.Concat(append(numbersOf(more), ahead, right)...)
				wantNone(t, all, len(all), api.ErrArg)
			}
		}
		wantNone(t, over(n, numbersOf(kids+1)...), kids+2, api.ErrArg)
		wantNone(t, append(slices.Clip(right), num(1)), kids+2, api.ErrArg)
	}
}

func TestKidsTooFew(t *testing.T) {
	for n, kids := range ops() {
		for fewer := range kids {
			l := over(n, numbersOf(fewer)...)
			wantNone(t, l, fewer, api.ErrArg)
			wantNone(t, append(slices.Clip(l), num(1)), fewer, api.ErrArg)
			wantNone(t, append(slices.Clip(l), num(1), num(1), op(13)), fewer, api.ErrArg)
			many := nodes(num(1), num(2), op(api.ExAdd), op(api.ExNeg)) // many nodes, but one subtree
			wantNone(t, over(n, slices.Repeat([][]api.Node{many}, fewer)...), 4*fewer, api.ErrArg)
		}
	}
	wantNone(t, nodes(num(1), num(2), num(3), cat(3), cat(2)), 4, api.ErrArg)
	wantNone(t, nodes(num(1), num(2), num(3), op(api.ExAdd), cat(3)), 4, api.ErrArg)
	wantCheck(t, nodes(num(1), num(2), num(3), op(api.ExAdd), cat(2)), 0, api.OK)
}

func TestOpsThatAreNone(t *testing.T) {
	for _, no := range []int{0, -1, 13, 14, 100, -3, 256 + 1, 1 << 32, 1<<32 + 1, math.MaxInt, math.MinInt, math.MinInt + 1} {
		wantNone(t, nodes(op(no)), 0, api.ErrArg)
		wantNone(t, nodes(api.Node{Op: no, N: 1, Num: 1, Text: "x"}), 0, api.ErrArg)
		wantNone(t, nodes(num(1), op(no)), 1, api.ErrArg)
		wantNone(t, nodes(num(1), num(1), op(no)), 2, api.ErrArg)
		wantNone(t, nodes(num(1), api.Node{Op: no, N: 1}), 1, api.ErrArg)
		wantNone(t, nodes(op(no), op(api.ExNeg)), 0, api.ErrArg)
	}
}

func TestHowManyKidsACatHas(t *testing.T) {
	for _, n := range []int{0, -1, -2, math.MinInt, math.MinInt + 1, 1<<32 + 1, 1 << 62, math.MaxInt - 1, math.MaxInt} {
		for kids := range 4 {
			wantNone(t, over(cat(n), numbersOf(kids)...), kids, api.ErrArg)
			wantNone(t, append(over(cat(n), numbersOf(kids)...), num(1), cat(1)), kids, api.ErrArg)
		}
	}
	for kids := 1; kids < 20; kids++ {
		for n := 1; n < 25; n++ {
			l := over(cat(n), numbersOf(kids)...)
			switch {
			case n == kids:
				wantCheck(t, l, 0, api.OK)
			case n > kids:
				wantNone(t, l, kids, api.ErrArg)
			default:
				wantNone(t, l, kids+1, api.ErrArg)
			}
		}
	}
	for _, n := range []int{255, 256, 257, 65536, 300000} {
		l := over(cat(n), slices.Repeat([][]api.Node{nodes(text("x"))}, n)...)
		wantCheck(t, l, 0, api.OK)
		wantNone(t, l[1:], n-1, api.ErrArg)
		wantNone(t, append(nodes(num(1)), l...), n+2, api.ErrArg)
	}
}

func TestFieldsThatANodeDoesNotUse(t *testing.T) {
	for n, kids := range ops() {
		for _, some := range []int{1, -1, 2, 1 << 32, math.MaxInt, math.MinInt} {
			if n.Op != api.ExCat {
				other := n
				other.N = some
				wantUnused(t, other, kids)
			}
			if n.Op != api.ExNumber {
				other := n
				other.Num = uint64(some)
				wantUnused(t, other, kids)
			}
		}
		for _, some := range []string{"x", " ", "\x00", "true", "\xff", times("long", 2000)} {
			if n.Op != api.ExText {
				other := n
				other.Text = some
				wantUnused(t, other, kids)
			}
		}
		for _, at := range []int{0, 1, -1, 100, math.MaxInt, math.MinInt} {
			other := n
			other.At = at
			wantCheck(t, over(other, numbersOf(kids)...), 0, api.OK)
		}
	}
	for _, n := range []uint64{0, 1, 1 << 63, 1<<64 - 1} {
		wantCheck(t, nodes(num(n)), 0, api.OK)
	}
	for _, s := range []string{"", "x", "\xff\x00", times("long", 3000)} {
		wantCheck(t, nodes(text(s)), 0, api.OK)
	}
}

// wantUnused looks that a node is refused where it stands, for a field that its Op doesn't use.
func wantUnused(t *testing.T, n api.Node, kids int) {
	t.Helper()
	l := over(n, numbersOf(kids)...)
	wantNone(t, l, kids, api.ErrArg)
	wantNone(t, append(nodes(text("x")), l...), kids+1, api.ErrArg)
	wantNone(t, append(l, op(api.ExNeg)), kids, api.ErrArg)
}

func TestTheFirstOfSeveralFaults(t *testing.T) {
	bad := []struct {
		l  []api.Node
		at int
	}{
		{nodes(op(0)), 0}, {nodes(num(1), op(13)), 1}, {nodes(num(1), cat(0)), 1}, {nodes(num(1), cat(2)), 1}, {nodes(num(1), num(2), op(api.ExAdd), op(api.ExMul)), 3},
		{nodes(num(1), api.Node{Op: api.ExNeg, Num: 1}), 1}, {nodes(api.Node{Op: api.ExText, Text: "x", N: 1}), 0},
	}
	deep := deepOf(op(api.ExNeg), 1, 0, 101)
	for _, a := range bad {
		for _, b := range bad {
			wantNone(t, append(slices.Clip(a.l), b.l...), a.at, api.ErrArg)
		}
		wantNone(t, append(slices.Clip(a.l), deep...), a.at, api.ErrArg)
		wantNone(t, append(slices.Clip(deep), a.l...), 100, api.ErrDepth)
		wantNone(t, append(slices.Clip(a.l), num(1), num(1)), a.at, api.ErrArg)
	}
	wantNone(t, append(slices.Clip(deep), num(1)), 100, api.ErrDepth)
	wantNone(t, append(nodes(num(1)), deep...), 101, api.ErrDepth)
	wantNone(t, append(slices.Clip(deep), deep...), 100, api.ErrDepth)
	wantNone(t, append(slices.Clip(deep), op(api.ExNeg), op(api.ExAdd)), 100, api.ErrDepth)
}

func TestOneNodeAtFaultInTwoWays(t *testing.T) {
	for _, last := range []api.Node{
		op(13), op(0), cat(0), cat(-1), cat(2), op(api.ExAdd), op(api.ExSub), op(api.ExMul), op(api.ExRep),
		{Op: api.ExNeg, N: 1}, {Op: api.ExNeg, Num: 1}, {Op: api.ExLen, Text: "x"}, {Op: api.ExHex, N: -1}, {Op: api.ExCat, N: 1, Text: "x"}, {Op: api.ExCat, N: 1, Num: 1},
	} {
		full := deepOf(op(api.ExNeg), 1, 0, 100)
		wantNone(t, append(slices.Clip(full), last), 100, api.ErrArg)
		wantNone(t, append(slices.Clip(full), op(api.ExNeg), last), 100, api.ErrDepth)
		wantNone(t, append(slices.Clip(full), last, op(api.ExNeg)), 100, api.ErrArg)
	}
}

func TestDepths(t *testing.T) {
	for n, kids := range ops() {
		for place := range kids {
			for depth := 2; depth <= 100; depth += 7 {
				wantCheck(t, deepOf(n, kids, place, depth), 0, api.OK)
			}
			full := deepOf(n, kids, place, 100)
			wantCheck(t, full, 0, api.OK)
			for _, more := range []int{1, 2, 10, 1000} {
				deep := deepOf(n, kids, place, 100+more)
				ahead := (more - 1) * place // what the levels further up put ahead
				wantNone(t, deep, ahead+len(lean(n, kids, place, full))-1, api.ErrDepth)
			}
			for other, otherKids := range ops() {
				for otherPlace := range otherKids {
					all := lean(other, otherKids, otherPlace, full)
					wantNone(t, all, len(all)-1, api.ErrDepth)
					half := deepOf(n, kids, place, 99)
					wantCheck(t, lean(other, otherKids, otherPlace, half), 0, api.OK)
				}
			}
		}
	}
	left, right := deepOf(op(api.ExNeg), 1, 0, 99), deepOf(op(api.ExAdd), 2, 1, 99)
	wantCheck(t, over(op(api.ExMul), left, right), 0, api.OK)
	wantCheck(t, over(op(api.ExMul), right, left), 0, api.OK)
	wantCheck(t, over(cat(3), right, left, right), 0, api.OK)
}

// balanced is the sum of 2^n numbers.
func balanced(n int) []api.Node {
	l := nodes(num(1))
	for range n {
		l = over(op(api.ExAdd), l, l)
	}
	return l
}

func TestManyNodes(t *testing.T) {
	wantCheck(t, balanced(17), 0, api.OK)
	wantNone(t, balanced(17)[1:], 1, api.ErrArg)
	wantNone(t, slices.Repeat(nodes(num(1)), 1000000), 1000000, api.ErrArg)
	wantNone(t, append(nodes(num(1)), slices.Repeat(nodes(op(api.ExNeg)), 1000000)...), 100, api.ErrDepth)
	wantNone(t, slices.Repeat(nodes(num(1), op(api.ExNeg)), 500000), 1000000, api.ErrArg)
}

func TestEveryShortList(t *testing.T) {
	var some []api.Node
	for n := range ops() {
		some = append(some, n)
	}
	some = append(some, text("00"), num(0), cat(0), cat(-1), cat(3), cat(math.MaxInt), op(0), op(13), op(-1), api.Node{Op: api.ExNumber, N: 1}, api.Node{Op: api.ExNeg, Num: 1}, api.Node{Op: api.ExAdd, Text: "x"})
	everyList(some, 3, func(l []api.Node) { wantPlain(t, l) })
	everyList([]api.Node{num(2), text("00"), op(api.ExNeg), op(api.ExHex), op(api.ExRep), cat(2)}, 5, func(l []api.Node) { wantPlain(t, l) })
	everyList([]api.Node{num(1), op(api.ExAdd)}, 11, func(l []api.Node) { wantPlain(t, l) })
}

// What layers 9 and 10 take for an expression

func TestWhatIsReadAndPrintedIsAnExpression(t *testing.T) {
	r := lcg(111)
	fine := 0
	for range 5000 {
		l := r.expression("ntby"[r.below(4)], 1+r.below(6))
		if r.below(2) == 0 {
			l = r.disturb(l)
		}
		_, err := expr.Check(l)
		printed, printErr := print.Value(l)
		if (err == api.OK) != (printErr == api.OK) {
			t.Errorf("%s: %d, and printed %d", shown(l), err, printErr)
		}
		if err != api.OK {
			continue
		}
		back, _, _ := parse.Value(printed)
		wantCheck(t, back, 0, api.OK)
		fine++
	}
	if fine < 2500 || fine > 4500 {
		t.Error(fine)
	}
	for _, written := range []string{times("(", 100) + "1" + times(")", 100), times("-", 99) + "1", "1" + times("+1", 99), times("len(", 99) + "1" + times(")", 99)} {
		wantCheck(t, read(t, written), 0, api.OK)
	}
}
