package expr

import (
	"math"
	"strings"

	"stratum/api"
	"stratum/kind"
	"stratum/postorder"
)

func isKind(k int) bool {
	return kind.Name(k) != ""
}

// valueOf is what an expression stands for, as a value of a kind; its own faults are told as the root's.
func valueOf(root postorder.Subtree, k int) api.Value {
	m := reckon(root)
	want(root, m.sort == sortOf(k))
	v := api.Value{Kind: k, N: bitsOf(m.number), S: strings.Clone(m.text)}
	if !hasNumber(k, m.number) || !kind.Valid(v) {
		giveUp(root, api.ErrValue)
	}
	return v
}

// sortOf is the sort whose meanings can be values of a kind.
func sortOf(k int) int {
	switch k {
	case kind.Uint(), kind.Int():
		return aNumber
	case kind.Bool():
		return aTruth
	case kind.Text():
		return aText
	}
	return someBytes
}

// hasNumber: whether a kind of numbers has this one. All others have the numbers of their meanings.
func hasNumber(k int, n number) bool {
	switch k {
	case kind.Uint():
		return !n.below
	case kind.Int():
		return n.below || n.size <= math.MaxInt64
	}
	return true
}
