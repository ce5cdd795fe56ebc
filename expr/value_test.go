package expr_test

import (
	"math"
	"math/big"
	"slices"
	"testing"

	"stratum/api"
	"stratum/expr"
)

// P11.2

const (
	uintKind  = 1
	intKind   = 2
	boolKind  = 3
	textKind  = 4
	bytesKind = 5
)

func TestValuesOfTheChapter(t *testing.T) {
	for _, c := range []struct {
		written string
		kind    int
		n       uint64
		s       string
		at      int
		err     api.Errno
	}{
		{"1 + 2 * 3", uintKind, 7, "", 0, api.OK},
		{"1 + 2 * 3", intKind, 7, "", 0, api.OK},
		{"1 + 2 * 3", textKind, 0, "", 4, api.ErrKinds},
		{"-1", uintKind, 0, "", 1, api.ErrValue},
		{"-1", intKind, math.MaxUint64, "", 0, api.OK},
		{"9223372036854775808", intKind, 0, "", 0, api.ErrValue},
		{"-9223372036854775808", intKind, 1 << 63, "", 0, api.OK},
		{"18446744073709551615 + 1", uintKind, 0, "", 2, api.ErrValue},
		{"-9223372036854775808 - 1", intKind, 0, "", 3, api.ErrValue},
		{`"a" + "b"`, textKind, 0, "ab", 0, api.OK},
		{`cat("a", rep("bc", 2))`, textKind, 0, "abcbc", 0, api.OK},
		{`rep("", 18446744073709551615)`, textKind, 0, "", 0, api.OK},
		{`rep("ab", 2049)`, textKind, 0, "", 2, api.ErrLong},
		{`rep("a", -1)`, textKind, 0, "", 3, api.ErrValue},
		{`"a" + 1`, textKind, 0, "", 2, api.ErrKinds},
		{`len("abc") * 2`, uintKind, 6, "", 0, api.OK},
		{`len(hex("00ff"))`, uintKind, 2, "", 0, api.OK},
		{`hex("0")`, bytesKind, 0, "", 1, api.ErrValue},
		{`hex("00ff")`, bytesKind, 0, "\x00\xff", 0, api.OK},
		{`hex("00ff")`, textKind, 0, "", 1, api.ErrKinds},
		{"true", boolKind, 1, "", 0, api.OK},
		{`"\xff"`, textKind, 0, "", 0, api.ErrValue},
		{"1", 6, 0, "", 1, api.ErrArg},
	} {
		want := api.Value{}
		if c.err == api.OK {
			want = api.Value{Kind: c.kind, N: c.n, S: c.s}
		}
		wantTold(t, read(t, c.written), c.kind, want, c.at, c.err)
	}
}

// The order of the errors

// noKinds are numbers that are no kind's.
func noKinds() []int {
	return []int{0, 6, 7, -1, -5, 255, 256 + 1, 1<<32 + 1, math.MaxInt, math.MinInt, math.MinInt + 1}
}

func TestCheckComesFirst(t *testing.T) {
	fault := read(t, `-true`)
	for _, k := range append(noKinds(), 1, 2, 3, 4, 5) {
		wantFault(t, nil, k, 0, api.ErrArg)
		wantFault(t, append(slices.Clip(fault), num(1)), k, 3, api.ErrArg)
		wantFault(t, append(slices.Clip(fault), op(13)), k, 2, api.ErrArg)
		wantFault(t, append(slices.Clip(fault), num(1), op(api.ExAdd), cat(0)), k, 4, api.ErrArg)
		wantFault(t, append(slices.Clip(fault), deepOf(op(api.ExNeg), 1, 0, 101)...), k, 102, api.ErrDepth)
		wantFault(t, deepOf(op(api.ExNeg), 1, 0, 200), k, 100, api.ErrDepth)
		wantFault(t, append(nodes(op(api.ExTrue)), slices.Repeat(nodes(op(api.ExNeg)), 100)...), k, 100, api.ErrDepth)
	}
}

func TestTheKindComesSecond(t *testing.T) {
	for _, k := range noKinds() {
		for _, written := range []string{"1", "true", `"a"`, `hex("00")`, "-true", "-true + 1", `hex("0")`, `rep("a", 5000)`, "18446744073709551615 + 1", `"\xff"`} {
			l := read(t, written)
			wantFault(t, l, k, len(l), api.ErrArg)
		}
		wantFault(t, nodes(text(times("a", 4097))), k, 1, api.ErrArg)
	}
}

func TestTheFirstNodeAtFaultIsTold(t *testing.T) {
	faults := []struct {
		written string
		at      int
		err     api.Errno
	}{
		{"-true", 1, api.ErrKinds}, {"18446744073709551615 + 1", 2, api.ErrValue}, {"- -9223372036854775809", 1, api.ErrValue}, {`rep("a", 5000)`, 2, api.ErrLong}, {`rep("a", -1)`, 3, api.ErrValue},
		{`hex("0")`, 1, api.ErrValue}, {`hex(1)`, 1, api.ErrKinds}, {`len(true)`, 1, api.ErrKinds}, {`cat("a", 1)`, 2, api.ErrKinds},
	}
	for _, a := range faults {
		l := read(t, a.written)
		for k := 1; k <= 5; k++ {
			wantFault(t, l, k, a.at, a.err)
			for _, b := range faults {
				other := read(t, b.written)
				for _, n := range []api.Node{op(api.ExAdd), op(api.ExSub), op(api.ExMul), op(api.ExRep), cat(2)} {
					wantFault(t, over(n, l, other), k, a.at, a.err)
					wantFault(t, append(over(n, l, other), op(api.ExNeg)), k, a.at, a.err)
				}
				wantFault(t, over(cat(4), nodes(text("a")), l, nodes(num(1)), other), k, a.at+1, a.err)
			}
			for _, n := range []api.Node{op(api.ExNeg), op(api.ExLen), op(api.ExHex), cat(1)} {
				wantFault(t, append(slices.Clip(l), n), k, a.at, a.err)
			}
			wantFault(t, over(op(api.ExRep), nodes(num(1)), l), k, a.at+1, a.err)
			wantFault(t, over(op(api.ExAdd), nodes(op(api.ExTrue)), l), k, a.at+1, a.err)
			wantFault(t, over(cat(3), nodes(num(1)), nodes(text("a")), l), k, a.at+2, a.err)
		}
	}
}

func TestTheKindOfTheRootComesLast(t *testing.T) {
	long := nodes(text(times("\xff", 4097)))
	for k := 1; k <= 5; k++ {
		wantFault(t, long, k, 0, api.ErrLong)
		wantFault(t, read(t, `"a" + 1`), k, 2, api.ErrKinds)
		wantFault(t, read(t, `hex("0x")`), k, 1, api.ErrValue)
		wantFault(t, read(t, `rep("\xff", 4097)`), k, 2, api.ErrLong)
		wantFault(t, read(t, `-9223372036854775809`), k, 1, api.ErrValue)
		wantFault(t, read(t, `1 + -9223372036854775809`), k, 2, api.ErrValue)
	}
	wantFault(t, read(t, `len("abc") * 2`), textKind, 3, api.ErrKinds)
	wantFault(t, read(t, `cat("a", "b", "\xff")`), textKind, 3, api.ErrValue)
	wantFault(t, read(t, `cat("a", "b", "\xff")`), bytesKind, 3, api.ErrKinds)
	wantFault(t, read(t, `1 - 2`), uintKind, 2, api.ErrValue)
	wantFault(t, read(t, `9223372036854775807 + 1`), intKind, 2, api.ErrValue)
}

// Kids of each sort

// sorts are expressions of each sort by its letter, some of them with values at the ends.
func sorts(t *testing.T) map[byte][][]api.Node {
	written := map[byte][]string{
		'n': {"0", "7", "-1", "18446744073709551615", `len("ab")`, "2 * 3"}, 't': {`""`, `"a"`, `"0a"`, `"\xff"`, `rep("ab", 2)`, `cat("a", "b")`, `rep("f", 4096)`, `rep("fe", 2048)`},
		'b': {"true", "false"}, 'y': {`hex("")`, `hex("00ff")`, `hex("6130")`, `hex(rep("30", 2048))`},
	}
	out := map[byte][][]api.Node{}
	for sort, all := range written {
		for _, w := range all {
			out[sort] = append(out[sort], read(t, w))
		}
	}
	return out
}

func TestKidsOfEachSort(t *testing.T) {
	all := sorts(t)
	for a, firsts := range all {
		for _, first := range firsts {
			for n, takes := range map[api.Node]string{op(api.ExNeg): "n", op(api.ExLen): "ty", op(api.ExHex): "t", cat(1): "t"} {
				wantTaken(t, over(n, first), slices.Contains([]byte(takes), a))
			}
			for b, seconds := range all {
				for _, second := range seconds {
					for n, takes := range map[api.Node][]string{
						op(api.ExAdd): {"nn", "tt"}, op(api.ExSub): {"nn"}, op(api.ExMul): {"nn"}, op(api.ExRep): {"tn"}, cat(2): {"tt"},
					} {
						wantTaken(t, over(n, first, second), slices.Contains(takes, string([]byte{a, b})))
					}
				}
			}
		}
	}
}

// wantTaken looks that the root tells ErrKinds just if its kids aren't of the sorts that it takes.
func wantTaken(t *testing.T, l []api.Node, taken bool) {
	t.Helper()
	for _, up := range []api.Node{{}, op(api.ExNeg), op(api.ExLen), cat(1)} {
		whole := l
		if up.Op != 0 {
			whole = append(slices.Clip(l), up)
		}
		for k := 1; k <= 5; k++ {
			if !taken {
				wantFault(t, whole, k, len(l)-1, api.ErrKinds)
			}
		}
		wantPlain(t, whole)
	}
}

func TestACatOfManySorts(t *testing.T) {
	for sort, all := range sorts(t) {
		for _, kid := range all {
			for place := range 4 {
				kids := [][]api.Node{nodes(text("a")), nodes(text("b")), nodes(text("c")), nodes(text("d"))}
				kids[place] = kid
				l := over(cat(4), kids...)
				wantPlain(t, l)
				if sort != 't' {
					wantFault(t, l, textKind, len(l)-1, api.ErrKinds)
				}
			}
		}
	}
}

func TestSeveralFaultsAtOneNode(t *testing.T) {
	most := nodes(text(times("a", 4096)))
	for k := 1; k <= 5; k++ {
		for _, c := range []struct {
			l   []api.Node
			err api.Errno
		}{
			{over(op(api.ExAdd), most, nodes(num(1))), api.ErrKinds},
			{over(op(api.ExAdd), most, nodes(text("00"), op(api.ExHex))), api.ErrKinds},
			{over(op(api.ExAdd), nodes(num(math.MaxUint64)), nodes(op(api.ExTrue))), api.ErrKinds},
			{over(op(api.ExMul), nodes(num(math.MaxUint64)), most), api.ErrKinds},
			{over(op(api.ExSub), most, nodes(num(math.MaxUint64))), api.ErrKinds},
			{over(cat(3), most, nodes(text("b")), nodes(num(1))), api.ErrKinds},
			{over(cat(3), nodes(num(1)), most, most), api.ErrKinds},
			{over(cat(4), most, nodes(op(api.ExTrue)), most, most), api.ErrKinds},
			{over(cat(3), most, most, nodes(text("00"), op(api.ExHex))), api.ErrKinds},
			{over(op(api.ExRep), nodes(num(1)), nodes(num(1), op(api.ExNeg))), api.ErrKinds},
			{over(op(api.ExRep), nodes(text("00"), op(api.ExHex)), nodes(num(5000))), api.ErrKinds},
			{over(op(api.ExRep), nodes(op(api.ExFalse)), nodes(num(5000), op(api.ExNeg))), api.ErrKinds},
			{over(op(api.ExRep), most, nodes(text("2"))), api.ErrKinds},
			{over(op(api.ExRep), most, most), api.ErrKinds},
			{over(op(api.ExRep), most, nodes(num(2), op(api.ExNeg))), api.ErrValue},
			{over(op(api.ExRep), most, nodes(num(1<<63), op(api.ExNeg))), api.ErrValue},
			{over(op(api.ExRep), nodes(text("")), nodes(num(1), op(api.ExNeg))), api.ErrValue},
			{over(op(api.ExRep), most, nodes(num(2))), api.ErrLong},
			{over(op(api.ExHex), nodes(num(1))), api.ErrKinds},
			{over(op(api.ExHex), nodes(text("00"), op(api.ExHex))), api.ErrKinds},
			{over(op(api.ExHex), nodes(text("0x0"))), api.ErrValue},
		} {
			wantFault(t, c.l, k, len(c.l)-1, c.err)
		}
	}
}

// Numbers

// ends are numbers at the bounds, and around.
func ends() []*big.Int {
	var out []*big.Int
	for _, n := range []uint{0, 1, 31, 32, 33, 62, 63, 64} {
		for more := int64(-2); more <= 2; more++ {
			out = append(out, power(n, 1, more), power(n, -1, more))
		}
	}
	for _, x := range []int64{0, 3, 5, 7, -3, 10, 1000003, -1000003, 3037000499, 3037000500, -3037000500, 4294967297} {
		out = append(out, big.NewInt(x))
	}
	return slices.DeleteFunc(out, func(x *big.Int) bool { return !isNumber(x) })
}

func isNumber(x *big.Int) bool {
	return x.Cmp(power(63, -1, 0)) >= 0 && x.Cmp(power(64, 1, -1)) <= 0
}

// wantNumber looks that an expression's root stands for this number, or is at fault where there is none.
func wantNumber(t *testing.T, l []api.Node, x *big.Int) {
	t.Helper()
	root := len(l) - 1
	switch {
	case !isNumber(x):
		for k := 1; k <= 5; k++ {
			wantFault(t, l, k, root, api.ErrValue)
		}
		return
	case x.Sign() < 0:
		wantFault(t, l, uintKind, root, api.ErrValue)
	default:
		wantValue(t, l, uintKind, x.Uint64(), "")
	}
	if x.IsInt64() {
		wantValue(t, l, intKind, uint64(x.Int64()), "")
	} else {
		wantFault(t, l, intKind, root, api.ErrValue)
	}
	for k := 3; k <= 5; k++ {
		wantFault(t, l, k, root, api.ErrKinds)
	}
}

func TestNumbersAtTheBounds(t *testing.T) {
	for _, a := range ends() {
		wantNumber(t, whole(a), a)
		wantNumber(t, append(whole(a), op(api.ExNeg)), new(big.Int).Neg(a))
		for _, b := range ends() {
			wantNumber(t, over(op(api.ExAdd), whole(a), whole(b)), new(big.Int).Add(a, b))
			wantNumber(t, over(op(api.ExSub), whole(a), whole(b)), new(big.Int).Sub(a, b))
			wantNumber(t, over(op(api.ExMul), whole(a), whole(b)), new(big.Int).Mul(a, b))
		}
	}
}

func TestNumbersByHand(t *testing.T) {
	for _, c := range []struct {
		written string
		kind    int
		want    uint64
	}{
		{"0", uintKind, 0}, {"-0", uintKind, 0}, {"-0", intKind, 0}, {"- -0", intKind, 0}, {"5 - 5", uintKind, 0}, {"-5 + 5", uintKind, 0}, {"0 * -1", uintKind, 0}, {"-1 * 0", intKind, 0}, {"0 - 0", uintKind, 0}, {"-0 - 0", uintKind, 0},
		{"9223372036854775807", intKind, math.MaxInt64}, {"9223372036854775807", uintKind, math.MaxInt64}, {"9223372036854775808", uintKind, 1 << 63}, {"18446744073709551615", uintKind, math.MaxUint64},
		{"-9223372036854775808", intKind, 1 << 63}, {"- -9223372036854775808", uintKind, 1 << 63}, {"-9223372036854775807 - 1", intKind, 1 << 63},
		{"18446744073709551615 - 18446744073709551615", uintKind, 0}, {"18446744073709551615 - 18446744073709551615", intKind, 0}, {"0 - 9223372036854775808", intKind, 1 << 63},
		{"18446744073709551615 - 9223372036854775808", intKind, math.MaxInt64}, {"9223372036854775807 - 18446744073709551615", intKind, 1 << 63}, {"-9223372036854775808 + 18446744073709551615", intKind, math.MaxInt64},
		{"-1 + 18446744073709551615", uintKind, math.MaxUint64 - 1}, {"18446744073709551615 + -1", uintKind, math.MaxUint64 - 1}, {"18446744073709551614 - -1", uintKind, math.MaxUint64},
		{"-1 * -9223372036854775808", uintKind, 1 << 63}, {"-9223372036854775808 * -1 + 9223372036854775807", uintKind, math.MaxUint64}, {"-9223372036854775808 * 1", intKind, 1 << 63},
		{"4294967295 * 4294967297", uintKind, math.MaxUint64}, {"-4294967296 * 2147483648", intKind, 1 << 63}, {"4294967296 * -2147483648", intKind, 1 << 63}, {"18446744073709551615 * 0", uintKind, 0}, {"18446744073709551615 * 1", uintKind, math.MaxUint64},
		{"9223372036854775807 * 2 + 1", uintKind, math.MaxUint64}, {"3 - 5", intKind, math.MaxUint64 - 1}, {"-3 - -5", intKind, 2}, {"-3 - 5", intKind, 1<<64 - 8}, {"-3 * 5", intKind, 1<<64 - 15}, {"10 - 3 - 4", uintKind, 3}, {"10 - (3 - 4)", uintKind, 11},
	} {
		wantValue(t, read(t, c.written), c.kind, c.want, "")
	}
	for _, c := range []struct {
		written string
		at      int
	}{
		{"-9223372036854775809", 1}, {"-18446744073709551615", 1}, {"-18446744073709551615 + 18446744073709551615", 1}, {"18446744073709551615 + 1", 2}, {"18446744073709551615 + 18446744073709551615", 2}, {"1 + 18446744073709551615 - 2", 2},
		{"0 - 9223372036854775809", 2}, {"-9223372036854775808 - 1", 3}, {"-9223372036854775808 + -9223372036854775808", 4}, {"-9223372036854775808 - 18446744073709551615", 3}, {"0 - 18446744073709551615", 2}, {"18446744073709551615 - -1", 3},
		{"4294967296 * 4294967296", 2}, {"9223372036854775808 * 2", 2}, {"18446744073709551615 * 18446744073709551615", 2}, {"-9223372036854775808 * -2", 4}, {"-9223372036854775808 * -9223372036854775808", 4}, {"-9223372036854775808 * 2", 3},
		{"-1 * 9223372036854775809", 3}, {"18446744073709551615 * -1", 3}, {"-3 * 3074457345618258603", 3}, {"4294967296 * 4294967297 - 18446744073709551615", 2}, {"2 * (18446744073709551615 + 1) * 0", 3},
	} {
		for k := 1; k <= 5; k++ {
			wantFault(t, read(t, c.written), k, c.at, api.ErrValue)
		}
	}
}

func TestNumbersByChance(t *testing.T) {
	r := lcg(112)
	fine, bounds := 0, ends()
	for range 20000 {
		a, b := r.whole(bounds), r.whole(bounds)
		made := new(big.Int)
		n := oneOf(&r, api.ExAdd, api.ExSub, api.ExMul)
		switch n {
		case api.ExAdd:
			made.Add(a, b)
		case api.ExSub:
			made.Sub(a, b)
		case api.ExMul:
			made.Mul(a, b)
		}
		wantNumber(t, over(op(n), whole(a), whole(b)), made)
		if isNumber(made) {
			fine++
		}
	}
	if fine < 8000 || fine > 18000 {
		t.Error(fine)
	}
}

// whole is a number of any size, or one of some.
func (r *lcg) whole(some []*big.Int) *big.Int {
	x := power(0, int64(r.below(1<<31)), 0)
	x.Mul(x, power(0, int64(r.below(1<<31)), 0)).Add(x, x).Add(x, big.NewInt(int64(r.below(2))))
	x.Rsh(x, uint(r.below(50)))
	if r.below(2) == 0 {
		x.Neg(x)
	}
	if r.below(4) == 0 || !isNumber(x) {
		return oneOf(r, some...)
	}
	return x
}

// Texts and bytes

func TestTextsAtTheGreatestLength(t *testing.T) {
	for _, c := range []string{"a", "\xff", "é"} {
		for n := 4092; n <= 4100; n++ {
			s := times(c, 4200)[:n]
			for _, cut := range []int{0, 1, 2, n / 2, n - 1, n} {
				for _, l := range [][]api.Node{
					nodes(text(s)),
					over(op(api.ExAdd), nodes(text(s[:cut])), nodes(text(s[cut:]))),
					over(cat(2), nodes(text(s[:cut])), nodes(text(s[cut:]))),
					over(cat(5), nodes(text(s[:cut])), nodes(text("")), nodes(text(s[cut:])), nodes(text("")), nodes(text(""))),
					over(cat(1), nodes(text(s))),
					over(op(api.ExRep), nodes(text(s)), nodes(num(1))),
				} {
					wantLength(t, l, s)
				}
			}
		}
	}
	for _, c := range []string{"a", "ab", "abc", "é", times("x", 64), times("x", 2048), times("x", 2049), times("x", 4095), times("x", 4096)} {
		for _, n := range []int{4096/len(c) - 1, 4096 / len(c), 4096/len(c) + 1, 2 * 4096 / len(c)} {
			wantLength(t, nodes(text(c), num(uint64(n)), op(api.ExRep)), times(c, n))
		}
	}
}

// wantLength looks that an expression stands for this text, or is too long at its root or at the text itself.
func wantLength(t *testing.T, l []api.Node, s string) {
	t.Helper()
	wantPlain(t, l)
	if len(s) <= 4096 {
		wantValue(t, append(slices.Clip(l), op(api.ExLen)), uintKind, uint64(len(s)), "")
		return
	}
	for k := 1; k <= 5; k++ {
		if _, at, err := expr.Value(l, k); err != api.ErrLong || at != len(l)-1 && l[at].Op != api.ExText {
			t.Errorf("Value(%s) of kind %d: %d at %d", shown(l), k, err, at)
		}
	}
}

func TestLongTextsByHand(t *testing.T) {
	most, one := nodes(text(times("a", 4096))), nodes(text("b"))
	more := nodes(text(times("a", 4097)))
	wantValue(t, most, textKind, 0, times("a", 4096))
	wantValue(t, over(op(api.ExAdd), most, nodes(text(""))), textKind, 0, times("a", 4096))
	wantValue(t, over(op(api.ExAdd), nodes(text(times("a", 4095))), one), textKind, 0, times("a", 4095)+"b")
	wantValue(t, over(cat(2), one, nodes(text(times("a", 4095)))), textKind, 0, "b"+times("a", 4095))
	wantValue(t, nodes(text("a"), num(4096), op(api.ExRep)), textKind, 0, times("a", 4096))
	wantFault(t, more, textKind, 0, api.ErrLong)
	wantFault(t, over(op(api.ExAdd), most, one), textKind, 2, api.ErrLong)
	wantFault(t, over(op(api.ExAdd), one, most), textKind, 2, api.ErrLong)
	wantFault(t, over(op(api.ExAdd), most, most), textKind, 2, api.ErrLong)
	wantFault(t, over(cat(2), most, one), textKind, 2, api.ErrLong)
	wantFault(t, over(cat(3), one, nodes(text("")), most), textKind, 3, api.ErrLong)
	wantFault(t, nodes(text("a"), num(4097), op(api.ExRep)), textKind, 2, api.ErrLong)
	wantFault(t, over(op(api.ExLen), more), uintKind, 0, api.ErrLong)
	wantFault(t, over(op(api.ExLen), over(cat(2), most, one)), uintKind, 2, api.ErrLong)
	wantFault(t, over(op(api.ExHex), more), bytesKind, 0, api.ErrLong)
	wantFault(t, over(op(api.ExRep), more, nodes(num(0))), textKind, 0, api.ErrLong)
	wantFault(t, over(op(api.ExAdd), one, more), textKind, 1, api.ErrLong)
	wantValue(t, over(op(api.ExHex), nodes(text(times("7a", 2048)))), bytesKind, 0, times("z", 2048))
	for _, n := range []int{3, 100, 4096, 4097, 50000} { // a cat of many kids, too long long before its end
		l := over(cat(n), slices.Repeat([][]api.Node{nodes(text(times("a", 4096)))}, n)...)
		wantFault(t, l, textKind, n, api.ErrLong)
		l[n-1] = op(api.ExTrue)
		wantFault(t, l, textKind, n, api.ErrKinds)
		wantFault(t, over(cat(n+1), l[:n-1], read(t, "-true"), one), textKind, n, api.ErrKinds)
		wantFault(t, over(cat(n+1), l[:n-1], read(t, `hex("0")`), one), textKind, n, api.ErrValue)
		wantFault(t, over(cat(n+1), l[:n-1], more, one), textKind, n-1, api.ErrLong)
		ones := over(cat(n), slices.Repeat([][]api.Node{one}, n)...)
		if n <= 4096 {
			wantValue(t, ones, textKind, 0, times("b", n))
		} else {
			wantFault(t, ones, textKind, n, api.ErrLong)
		}
		wantValue(t, over(cat(n), slices.Repeat([][]api.Node{nodes(text(""))}, n)...), textKind, 0, "")
	}
}

func TestTextsPutTogether(t *testing.T) {
	some := []string{"", "a", "bc", "\xff", "é", "\xc3", "\xa9", "\x00", times("long", 100)}
	for _, a := range some {
		for _, b := range some {
			wantWords(t, over(op(api.ExAdd), nodes(text(a)), nodes(text(b))), a+b)
			wantWords(t, over(cat(2), nodes(text(a)), nodes(text(b))), a+b)
			for _, c := range some {
				wantWords(t, over(cat(3), nodes(text(a)), nodes(text(b)), nodes(text(c))), a+b+c)
				wantWords(t, over(op(api.ExAdd), nodes(text(a)), over(op(api.ExAdd), nodes(text(b)), nodes(text(c)))), a+b+c)
			}
		}
	}
}

// wantWords looks that an expression stands for this text.
func wantWords(t *testing.T, l []api.Node, s string) {
	t.Helper()
	wantPlain(t, l)
	wantValue(t, append(slices.Clip(l), op(api.ExLen)), uintKind, uint64(len(s)), "")
	if got, _, err := expr.Value(l, textKind); err == api.OK && got.S != s {
		t.Errorf("Value(%s): %s", shown(l), shownValue(got))
	}
}

func TestReps(t *testing.T) {
	for _, n := range []uint64{0, 1, 2, 3, 4095, 4096, 4097, 1 << 12, 1 << 31, 1 << 32, 1<<32 + 1, 1<<63 - 1, 1 << 63, 1<<63 + 1, 1<<64 - 2, 1<<64 - 1} {
		for _, s := range []string{"", "a", "ab", "\xff", times("x", 100), times("x", 4096)} {
			wantPlain(t, nodes(text(s), num(n), op(api.ExRep)))
			below := nodes(text(s), num(n), op(api.ExNeg), op(api.ExRep))
			wantPlain(t, below)
			if n > 0 && n <= 1<<63 {
				wantFault(t, below, textKind, 3, api.ErrValue)
			}
		}
		wantValue(t, nodes(text(""), num(n), op(api.ExRep)), textKind, 0, "")
		wantValue(t, nodes(text(""), text(""), num(n), op(api.ExRep), cat(2)), textKind, 0, "")
	}
	wantValue(t, read(t, `rep("ab", 0)`), textKind, 0, "")
	wantValue(t, read(t, `rep("ab", 1)`), textKind, 0, "ab")
	wantValue(t, read(t, `rep("ab", 3)`), textKind, 0, "ababab")
	wantValue(t, read(t, `rep("ab", -0)`), textKind, 0, "")
	wantValue(t, read(t, `rep("ab", 0 * -1)`), textKind, 0, "")
	wantValue(t, read(t, `rep("ab", -1 + 1)`), textKind, 0, "")
	wantValue(t, read(t, `rep(rep("a", 64), 64)`), textKind, 0, times("a", 4096))
	wantValue(t, read(t, `rep("", 18446744073709551615) + "x"`), textKind, 0, "x")
	wantFault(t, read(t, `rep("a", 18446744073709551615)`), textKind, 2, api.ErrLong)
	wantFault(t, read(t, `rep("ab", 9223372036854775808)`), textKind, 2, api.ErrLong)
	wantFault(t, read(t, `rep("", -1)`), textKind, 3, api.ErrValue)
	wantFault(t, read(t, `rep(2, "a")`), textKind, 2, api.ErrKinds)
}

func TestLengths(t *testing.T) {
	for written, want := range map[string]uint64{
		`""`: 0, `"a"`: 1, `"\xc3\xa9"`: 2, `"\xff\x00"`: 2, `hex("")`: 0, `hex("00")`: 1, `hex("00ff7a")`: 3, `rep("ab", 2048)`: 4096, `hex(rep("ab", 2048))`: 2048, `cat("a", "bc")`: 3, `"a" + "bcd"`: 4,
	} {
		wantValue(t, append(read(t, written), op(api.ExLen)), uintKind, want, "")
		wantValue(t, append(read(t, written), op(api.ExLen)), intKind, want, "")
		wantValue(t, append(read(t, written), op(api.ExLen), op(api.ExNeg)), intKind, -want, "")
	}
	wantFault(t, read(t, "len(1)"), uintKind, 1, api.ErrKinds)
	wantFault(t, read(t, "len(true)"), uintKind, 1, api.ErrKinds)
	wantFault(t, read(t, "len(len(1))"), uintKind, 1, api.ErrKinds)
}

func TestHexes(t *testing.T) {
	for digits, want := range map[string]string{
		"": "", "00": "\x00", "ff": "\xff", "FF": "\xff", "aB": "\xab", "Ab": "\xab", "00fF7a": "\x00\xff\x7a", "0123456789abcdefABCDEF": "\x01\x23\x45\x67\x89\xab\xcd\xef\xab\xcd\xef",
	} {
		wantValue(t, nodes(text(digits), op(api.ExHex)), bytesKind, 0, want)
		for _, k := range []int{1, 2, 3, 4} {
			wantFault(t, nodes(text(digits), op(api.ExHex)), k, 1, api.ErrKinds)
		}
	}
	for _, s := range []string{"0", "000", "0x00", "0g", "g0", " 0", "0 ", "0\n", "\xff\xff", "é", "-1", "/0", ":0", "@0", "G0", "`0", "0\x00"} {
		for k := 1; k <= 5; k++ {
			wantFault(t, nodes(text(s), op(api.ExHex)), k, 1, api.ErrValue)
			wantFault(t, nodes(text(s), op(api.ExHex), op(api.ExLen)), k, 1, api.ErrValue)
		}
	}
	for a := range 256 {
		for _, s := range []string{string([]byte{byte(a), '0'}), string([]byte{'0', byte(a)}), string([]byte{byte(a)})} {
			wantPlain(t, nodes(text(s), op(api.ExHex)))
		}
	}
	for _, written := range []string{"hex(1)", "hex(true)"} {
		wantFault(t, read(t, written), bytesKind, 1, api.ErrKinds)
	}
	wantFault(t, read(t, `hex(hex("3030"))`), bytesKind, 2, api.ErrKinds)
	wantValue(t, read(t, `hex(cat("0", "0", rep("f", 2)))`), bytesKind, 0, "\x00\xff")
}

// The table of kinds

func TestEachCellOfTheTable(t *testing.T) {
	for _, c := range []struct {
		written string
		kinds   [5]api.Errno
	}{
		{"0", [5]api.Errno{0, 0, 110, 110, 110}},
		{"1", [5]api.Errno{0, 0, 110, 110, 110}},
		{"-1", [5]api.Errno{111, 0, 110, 110, 110}},
		{"9223372036854775808", [5]api.Errno{0, 111, 110, 110, 110}},
		{`""`, [5]api.Errno{110, 110, 110, 0, 110}},
		{`"1"`, [5]api.Errno{110, 110, 110, 0, 110}},
		{`"true"`, [5]api.Errno{110, 110, 110, 0, 110}},
		{`"\xff"`, [5]api.Errno{110, 110, 110, 111, 110}},
		{`"ab\xe2\x82"`, [5]api.Errno{110, 110, 110, 111, 110}},
		{`"\xed\xa0\x80"`, [5]api.Errno{110, 110, 110, 111, 110}},
		{"true", [5]api.Errno{110, 110, 0, 110, 110}},
		{"false", [5]api.Errno{110, 110, 0, 110, 110}},
		{`hex("")`, [5]api.Errno{110, 110, 110, 110, 0}},
		{`hex("61")`, [5]api.Errno{110, 110, 110, 110, 0}},
		{`hex("ff")`, [5]api.Errno{110, 110, 110, 110, 0}},
	} {
		l := read(t, c.written)
		for i, err := range c.kinds {
			if err != api.OK {
				wantFault(t, l, i+1, len(l)-1, err)
			} else if _, _, got := expr.Value(l, i+1); got != api.OK {
				t.Errorf("%s of kind %d: %d", c.written, i+1, got)
			}
		}
		wantPlain(t, l)
	}
	wantValue(t, read(t, "true"), boolKind, 1, "")
	wantValue(t, read(t, "false"), boolKind, 0, "")
	wantValue(t, read(t, "0"), uintKind, 0, "")
	wantValue(t, read(t, "-2"), intKind, math.MaxUint64-1, "")
	wantValue(t, read(t, `"\xc3\xa9"`), textKind, 0, "é")
	wantValue(t, read(t, `"\xc3" + "\xa9"`), textKind, 0, "é")
	wantValue(t, read(t, `""`), textKind, 0, "")
	wantValue(t, read(t, `hex("")`), bytesKind, 0, "")
}

// Trees of many nodes

func TestDeepExpressions(t *testing.T) {
	wantValue(t, deepOf(op(api.ExNeg), 1, 0, 100), intKind, math.MaxUint64, "")
	wantValue(t, deepOf(op(api.ExNeg), 1, 0, 99), uintKind, 1, "")
	wantValue(t, deepOf(op(api.ExAdd), 2, 0, 100), uintKind, 100, "")
	wantValue(t, deepOf(op(api.ExAdd), 2, 1, 100), uintKind, 100, "")
	wantValue(t, deepOf(op(api.ExSub), 2, 0, 100), intKind, 1<<64-98, "")
	wantValue(t, deepOf(op(api.ExMul), 2, 1, 100), uintKind, 1, "")
	wantValue(t, balanced(16), uintKind, 1<<16, "")
	wantFault(t, balanced(16), textKind, 1<<17-2, api.ErrKinds)
	l := nodes(text("a"))
	for range 99 {
		l = over(cat(3), nodes(text("b")), l, nodes(text("c")))
	}
	wantValue(t, l, textKind, 0, times("b", 99)+"a"+times("c", 99))
	l[99] = op(api.ExTrue)
	wantFault(t, l, textKind, 101, api.ErrKinds)
}

func TestValuesByChance(t *testing.T) {
	r := lcg(113)
	told := map[api.Errno]int{}
	for range 20000 {
		l := r.expression("ntby"[r.below(4)], 1+r.below(6))
		wantPlain(t, l)
		for k := 1; k <= 5; k++ {
			_, _, err := expr.Value(l, k)
			told[err]++
		}
	}
	for _, err := range []api.Errno{api.OK, api.ErrKinds, api.ErrValue, api.ErrLong} {
		if told[err] < 2000 {
			t.Errorf("%v", told)
		}
	}
}

func TestNodesWithFaultsByChance(t *testing.T) {
	r := lcg(114)
	told := map[api.Errno]int{}
	for range 20000 {
		l := r.expression("ntby"[r.below(4)], 1+r.below(5))
		for range 1 + r.below(3) {
			l = r.disturb(l)
		}
		wantPlain(t, l)
		_, err := expr.Check(l)
		told[err]++
	}
	if told[api.OK] < 2000 || told[api.ErrArg] < 2000 {
		t.Errorf("%v", told)
	}
}
