package expr_test

import (
	"encoding/hex"
	"math/big"
	"reflect"
	"regexp"
	"slices"
	"strings"
	"unicode/utf8"

	"stratum/api"
)

// The calls as the chapter tells them: a stack of what the nodes stand for, with numbers that have no bound.

// row is one of the chapter's table: the field that a node uses, its kids, and of which sorts they may be, by their
// letters (n for a number, t for a text, b for a truth value, y for bytes).
type row struct {
	uses  string
	kids  int
	sorts *regexp.Regexp
}

func plainRows() map[int]row {
	of := regexp.MustCompile
	return map[int]row{
		1: {"Num", 0, of(`^$`)}, 2: {"Text", 0, of(`^$`)}, 3: {"", 0, of(`^$`)}, 4: {"", 0, of(`^$`)},
		5: {"", 1, of(`^n$`)}, 6: {"", 2, of(`^(nn|tt)$`)}, 7: {"", 2, of(`^nn$`)}, 8: {"", 2, of(`^nn$`)},
		9: {"N", 0, of(`^t+$`)}, 10: {"", 2, of(`^tn$`)}, 11: {"", 1, of(`^[ty]$`)}, 12: {"", 1, of(`^t$`)},
	}
}

var rows = plainRows()

// isBare: whether a node has nothing in the fields that its row doesn't name.
func isBare(n api.Node, uses string) bool {
	v := reflect.ValueOf(n)
	for i := range v.NumField() {
		switch name := v.Type().Field(i).Name; name {
		case "Op", "At", uses:
		default:
			if !v.Field(i).IsZero() {
				return false
			}
		}
	}
	return true
}

// plainKids: how many kids a node has, and whether it can stand anywhere.
func plainKids(n api.Node) (int, bool) {
	of, ok := rows[n.Op]
	if of.uses == "N" {
		return n.N, ok && n.N >= 1
	}
	return of.kids, ok && isBare(n, of.uses)
}

func plainCheck(nodes []api.Node) (int, api.Errno) {
	var depths []int
	for at, n := range nodes {
		kids, ok := plainKids(n)
		if !ok || !isBare(n, rows[n.Op].uses) || kids > len(depths) {
			return at, 1
		}
		rest := len(depths) - kids
		depth := 1 + slices.Max(append([]int{0}, depths[rest:]...))
		if depth > 100 {
			return at, 91
		}
		depths = append(depths[:rest], depth)
	}
	if len(depths) != 1 {
		return len(nodes), 1
	}
	return 0, 0
}

// plainValue has on its stack *big.Int, string, bool and []byte.
func plainValue(nodes []api.Node, kind int) (api.Value, int, api.Errno) {
	if at, err := plainCheck(nodes); err != 0 {
		return api.Value{}, at, err
	}
	if kind < 1 || kind > 5 {
		return api.Value{}, len(nodes), 1
	}
	var stack []any
	for at, n := range nodes {
		kids, _ := plainKids(n)
		rest := len(stack) - kids
		x, err := plainNode(n, stack[rest:])
		if err != 0 {
			return api.Value{}, at, err
		}
		stack = append(stack[:rest], x)
	}
	v, err := plainKind(stack[0], kind)
	if err != 0 {
		return api.Value{}, len(nodes) - 1, err
	}
	v.Kind = kind
	return v, 0, 0
}

func letterOf(x any) string {
	switch x.(type) {
	case *big.Int:
		return "n"
	case string:
		return "t"
	case bool:
		return "b"
	}
	return "y"
}

// plainNode is what a node stands for, whose kids stand for these.
func plainNode(n api.Node, kids []any) (any, api.Errno) {
	var letters []string
	for _, k := range kids {
		letters = append(letters, letterOf(k))
	}
	sorts := strings.Join(letters, "")
	if !rows[n.Op].sorts.MatchString(sorts) {
		return nil, 110
	}
	x, err := plainWork(n, kids, sorts)
	if err != 0 {
		return nil, err
	}
	switch x := x.(type) {
	case *big.Int:
		if x.Cmp(power(63, -1, 0)) < 0 || x.Cmp(power(64, 1, -1)) > 0 {
			return nil, 111
		}
	case string:
		if len(x) > 4096 {
			return nil, 2
		}
	}
	return x, 0
}

// power is sign * 2^n + more.
func power(n uint, sign int64, more int64) *big.Int {
	x := new(big.Int).Lsh(big.NewInt(sign), n)
	return x.Add(x, big.NewInt(more))
}

func plainWork(n api.Node, kids []any, sorts string) (any, api.Errno) {
	number := func(i int) *big.Int { return kids[i].(*big.Int) }
	out := new(big.Int)
	switch n.Op {
	case 1:
		return out.SetUint64(n.Num), 0
	case 2:
		return n.Text, 0
	case 3, 4:
		return n.Op == 3, 0
	case 5:
		return out.Neg(number(0)), 0
	case 7:
		return out.Sub(number(0), number(1)), 0
	case 8:
		return out.Mul(number(0), number(1)), 0
	case 10:
		return plainRep(kids[0].(string), number(1))
	case 11:
		return big.NewInt(int64(reflect.ValueOf(kids[0]).Len())), 0
	case 12:
		all, err := hex.DecodeString(kids[0].(string))
		if err != nil {
			return nil, 111
		}
		return all, 0
	}
	if sorts == "nn" {
		return out.Add(number(0), number(1)), 0
	}
	var all []string
	for _, k := range kids {
		all = append(all, k.(string))
	}
	return strings.Join(all, ""), 0
}

func plainRep(s string, n *big.Int) (any, api.Errno) {
	if n.Sign() < 0 {
		return nil, 111
	}
	length := new(big.Int).Mul(n, big.NewInt(int64(len(s))))
	if length.Cmp(big.NewInt(4096)) > 0 {
		return nil, 2
	}
	if s == "" {
		return "", 0
	}
	return strings.Repeat(s, int(n.Int64())), 0
}

// plainKind is a value of a kind, but for its Kind.
func plainKind(x any, kind int) (api.Value, api.Errno) {
	switch x := x.(type) {
	case *big.Int:
		switch {
		case kind > 2:
			return api.Value{}, 110
		case kind == 1 && x.Sign() < 0, kind == 2 && !x.IsInt64():
			return api.Value{}, 111
		case kind == 1:
			return api.Value{N: x.Uint64()}, 0
		}
		return api.Value{N: uint64(x.Int64())}, 0
	case bool:
		if kind != 3 {
			return api.Value{}, 110
		}
		return api.Value{N: map[bool]uint64{true: 1}[x]}, 0
	case string:
		if kind != 4 {
			return api.Value{}, 110
		}
		if !utf8.ValidString(x) {
			return api.Value{}, 111
		}
		return api.Value{S: x}, 0
	}
	if kind != 5 {
		return api.Value{}, 110
	}
	return api.Value{S: string(x.([]byte))}, 0
}
