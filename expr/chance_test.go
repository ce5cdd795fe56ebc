package expr_test

import (
	"fmt"
	"math"
	"math/big"
	"slices"
	"strconv"
	"strings"
	"testing"

	"stratum/api"
	"stratum/expr"
	"stratum/kind"
	"stratum/parse"
)

// The parts of what is handed in, expressions by chance, faults put into them, and what the tests look.

func nodes(all ...api.Node) []api.Node { return all }
func num(n uint64) api.Node            { return api.Node{Op: api.ExNumber, Num: n} }
func text(s string) api.Node           { return api.Node{Op: api.ExText, Text: s} }
func cat(n int) api.Node               { return api.Node{Op: api.ExCat, N: n} }
func op(n int) api.Node                { return api.Node{Op: n} }
func times(s string, n int) string     { return strings.Repeat(s, n) }

// over is a node behind its kids.
func over(n api.Node, kids ...[]api.Node) []api.Node {
	return append(slices.Concat(kids...), n)
}

// whole is an expression of this number, one below 0 by ExNeg.
func whole(x *big.Int) []api.Node {
	n := num(new(big.Int).Abs(x).Uint64())
	if x.Sign() < 0 {
		return nodes(n, op(api.ExNeg))
	}
	return nodes(n)
}

// read is the expression that is written so (chapter 9).
func read(t *testing.T, written string) []api.Node {
	t.Helper()
	l, at, err := parse.Value(written)
	if err != api.OK {
		t.Fatalf("%s: %d at %d", written, err, at)
	}
	return l
}

// ops are nodes of each kind, cat with some N, each with how many kids it has.
func ops() map[api.Node]int {
	return map[api.Node]int{
		num(5): 0, text("t"): 0, op(api.ExTrue): 0, op(api.ExFalse): 0, op(api.ExNeg): 1, op(api.ExAdd): 2, op(api.ExSub): 2, op(api.ExMul): 2,
		cat(1): 1, cat(2): 2, cat(4): 4, op(api.ExRep): 2, op(api.ExLen): 1, op(api.ExHex): 1,
	}
}

// lcg is a row of numbers that is the same in every run.
type lcg uint64

func (r *lcg) below(n int) int {
	*r = *r*6364136223846793005 + 1442695040888963407
	return int(uint64(*r) >> 33 % uint64(n))
}

func oneOf[T any](r *lcg, all ...T) T {
	return all[r.below(len(all))]
}

func (r *lcg) number() uint64 {
	return oneOf(r, 0, 1, 2, 3, 10, 4095, 4096, 1<<31, 1<<32-1, 1<<32, 1<<63-1, 1<<63, 1<<63+1, 1<<64-2, 1<<64-1, uint64(r.below(100)), uint64(r.below(1<<30))<<uint(r.below(35)))
}

func (r *lcg) text() string {
	return oneOf(r, "", "", "a", "00", "0aF", "ff00", "é", "\xff", "\xe2\x82", "a text", times("7e", r.below(20)), times("x", r.below(200)), times("a", oneOf(r, 2047, 2048, 2049, 4095, 4096, 4097)))
}

// expression is one whose root stands for this sort, by its letter; seldom there is one of another sort in it.
func (r *lcg) expression(sort byte, deep int) []api.Node {
	if r.below(40) == 0 {
		sort = "ntby"[r.below(4)]
	}
	part := func(sort byte) []api.Node { return r.expression(sort, deep-1) }
	switch {
	case sort == 'b':
		return nodes(op(oneOf(r, api.ExTrue, api.ExFalse)))
	case sort == 'y':
		if deep < 2 {
			return nodes(text(oneOf(r, "", "00", "ff", "c3A9", "0")), op(api.ExHex))
		}
		return over(op(api.ExHex), part('t'))
	case sort == 't' && (deep < 2 || r.below(4) == 0):
		return nodes(text(r.text()))
	case deep < 2 || r.below(5) == 0:
		return nodes(num(r.number()))
	case sort == 'n':
		switch n := oneOf(r, api.ExNeg, api.ExAdd, api.ExSub, api.ExMul, api.ExLen); n {
		case api.ExNeg:
			return over(op(n), part('n'))
		case api.ExLen:
			return over(op(n), part(oneOf(r, byte('t'), 't', 'y')))
		default:
			return over(op(n), part('n'), part('n'))
		}
	}
	switch r.below(3) {
	case 0:
		return over(op(api.ExAdd), part('t'), part('t'))
	case 1:
		return over(op(api.ExRep), part('t'), oneOf(r, nodes(num(uint64(r.below(5)))), part('n')))
	}
	kids := make([][]api.Node, 1+r.below(4))
	for i := range kids {
		kids[i] = part('t')
	}
	return over(cat(len(kids)), kids...)
}

// disturb puts something else into the nodes, which may do or not.
func (r *lcg) disturb(l []api.Node) []api.Node {
	l = slices.Clone(l)
	if len(l) == 0 {
		return nodes(num(1))
	}
	at := r.below(len(l))
	some := oneOf(r, math.MinInt, -1, 0, 1, 2, 3, 13, math.MaxInt)
	switch r.below(8) {
	case 0:
		l[at].Op = oneOf(r, some, 1+r.below(12))
	case 1:
		l[at].N = some
	case 2:
		l[at].Num = r.number()
	case 3:
		l[at].Text = r.text()
	case 4:
		return slices.Delete(l, at, at+1)
	case 5:
		return slices.Insert(l, at, oneOf(r, num(1), text("t"), op(api.ExTrue), op(api.ExNeg), op(api.ExAdd), op(api.ExLen), cat(2)))
	case 6:
		other := r.below(len(l))
		l[at], l[other] = l[other], l[at]
	case 7:
		l[at] = api.Node{Op: l[at].Op, N: l[at].N, Num: uint64(some), Text: l[at].Text}
	}
	return l
}

// scatter is the nodes with other places in the text.
func (r *lcg) scatter(l []api.Node) []api.Node {
	l = slices.Clone(l)
	for i := range l {
		l[i].At = oneOf(r, 0, 1, -1, i, r.below(1000), math.MinInt, math.MaxInt)
	}
	return l
}

// everyList gives all lists of these nodes, up to a length.
func everyList(some []api.Node, length int, give func([]api.Node)) {
	lists := [][]api.Node{nil}
	for range length {
		var longer [][]api.Node
		for _, l := range lists {
			for _, n := range some {
				longer = append(longer, append(slices.Clip(l), n))
			}
		}
		for _, l := range longer {
			give(l)
		}
		lists = longer
	}
}

// shown is for tests that fail: nodes, shortened.
func shown(l []api.Node) string {
	s := fmt.Sprintf("%+v", l[:min(len(l), 8)])
	if len(s) > 300 || len(l) > 8 {
		s = s[:min(len(s), 300)] + ".. (" + strconv.Itoa(len(l)) + " nodes)"
	}
	return strconv.QuoteToASCII(s)
}

// shownValue is a value, shortened.
func shownValue(v api.Value) string {
	s := strconv.QuoteToASCII(v.S)
	if len(s) > 60 {
		s = s[:60] + ".. (" + strconv.Itoa(len(v.S)) + " bytes)"
	}
	return fmt.Sprintf("{%d %d %s}", v.Kind, v.N, s)
}

func wantCheck(t *testing.T, l []api.Node, at int, err api.Errno) {
	t.Helper()
	if gotAt, got := expr.Check(l); gotAt != at || got != err {
		t.Errorf("Check(%s): %d, %d, not %d, %d", shown(l), gotAt, got, at, err)
	}
}

// wantTold looks all that Value answers, and that a value is of the kind and valid.
func wantTold(t *testing.T, l []api.Node, k int, want api.Value, at int, err api.Errno) {
	t.Helper()
	v, gotAt, got := expr.Value(l, k)
	if v != want || gotAt != at || got != err {
		t.Errorf("Value(%s) of kind %d: %s, %d, %d, not %s, %d, %d", shown(l), k, shownValue(v), gotAt, got, shownValue(want), at, err)
	}
	if got == api.OK && (v.Kind != k || !kind.Valid(v)) {
		t.Errorf("Value(%s) of kind %d: %s is none", shown(l), k, shownValue(v))
	}
}

// wantValue looks that Value answers a value that holds this.
func wantValue(t *testing.T, l []api.Node, k int, n uint64, s string) {
	t.Helper()
	wantTold(t, l, k, api.Value{Kind: k, N: n, S: s}, 0, api.OK)
}

func wantFault(t *testing.T, l []api.Node, k int, at int, err api.Errno) {
	t.Helper()
	wantTold(t, l, k, api.Value{}, at, err)
}

// wantNone looks that both calls tell the same fault, Value of a kind and of none.
func wantNone(t *testing.T, l []api.Node, at int, err api.Errno) {
	t.Helper()
	wantCheck(t, l, at, err)
	for _, k := range []int{1, 5, 6} {
		wantFault(t, l, k, at, err)
	}
}

// someKinds are all kinds and some numbers that are none's.
func someKinds() []int {
	return []int{1, 2, 3, 4, 5, 0, 6, -1, math.MaxInt, math.MinInt, 1<<32 + 1}
}

// wantPlain looks whether both calls answer as the plain ones.
func wantPlain(t *testing.T, l []api.Node) {
	t.Helper()
	at, err := plainCheck(l)
	wantCheck(t, l, at, err)
	for _, k := range []int{1, 2, 3, 4, 5, 6} {
		want, at, err := plainValue(l, k)
		wantTold(t, l, k, want, at, err)
	}
}
