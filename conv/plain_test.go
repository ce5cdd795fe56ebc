package conv_test

import (
	"math"
	"math/big"
	"regexp"
	"slices"
	"strconv"
	"strings"
	"unicode/utf8"

	"stratum/api"
)

// Conversions as the chapter tells them, with unbounded numbers and without the packages that conv leans on; and what
// the tests try.

// The kinds' numbers, as DOC.md's table has them.
const (
	unsigned = 1
	signed   = 2
	truth    = 3
	text     = 4
	raw      = 5
)

// row is one row of the chapter's table.
type row struct {
	number int
	name   string
	from   int
	to     int
	size   int
	sure   bool
	errs   []api.Errno // what it may fail with, beside ErrArg; rising
}

// rows is the chapter's table.
func rows() []row {
	return []row{
		{1, "uint-int", unsigned, signed, 10, false, []api.Errno{api.ErrRange}},
		{2, "int-uint", signed, unsigned, 17, false, []api.Errno{api.ErrRange}},
		{3, "uint-text", unsigned, text, 12, true, nil},
		{4, "int-text", signed, text, 20, true, nil},
		{5, "text-uint", text, unsigned, 33, false, []api.Errno{api.ErrRange, api.ErrNumber}},
		{6, "text-int", text, signed, 34, false, []api.Errno{api.ErrRange, api.ErrNumber}},
		{7, "bool-text", truth, text, 28, true, nil},
		{8, "text-bool", text, truth, 35, false, []api.Errno{api.ErrBool}},
		{9, "bool-uint", truth, unsigned, 25, true, nil},
		{10, "uint-bool", unsigned, truth, 11, false, []api.Errno{api.ErrRange}},
		{11, "text-bytes", text, raw, 37, true, nil},
		{12, "bytes-text", raw, text, 44, false, []api.Errno{api.ErrUtf}},
	}
}

// noNumbers are numbers that are no conversion's, and no kind's either but for those from 1 to 5.
func noNumbers() []int {
	return []int{math.MinInt, math.MinInt + 1, math.MinInt32, -256, -13, -12, -11, -6, -2, -1, 0, 13, 14, 24, 64, 255, 256, 257, 268, 1<<32 + 1, 1<<32 + 12, 1<<61 + 5, math.MaxInt32, math.MaxInt - 1, math.MaxInt}
}

// noKinds are numbers that are no kind's.
func noKinds() []int {
	return append(noNumbers(), 6, 7, 8, 9, 10, 12)
}

// plainValid: whether v is valid, as DOC.md's Words have it.
func plainValid(v api.Value) bool {
	switch v.Kind {
	case unsigned, signed:
		return v.S == ""
	case truth:
		return v.S == "" && (v.N == 0 || v.N == 1)
	case text:
		return v.N == 0 && utf8.ValidString(v.S)
	case raw:
		return v.N == 0
	}
	return false
}

// isUint and isInt are the texts that are numbers.
var isUint = regexp.MustCompile(`\A[0-9]+\z`)
var isInt = regexp.MustCompile(`\A-?[0-9]+\z`)

// amount is the number that a value holds or writes, without a bound; an error where its text writes none.
func amount(v api.Value, to int) (*big.Int, api.Errno) {
	x := new(big.Int)
	switch v.Kind {
	case signed:
		return x.SetInt64(int64(v.N)), api.OK
	case text:
		if to == unsigned && !isUint.MatchString(v.S) || to == signed && !isInt.MatchString(v.S) {
			return nil, api.ErrNumber
		}
		x.SetString(v.S, 10)
		return x, api.OK
	}
	return x.SetUint64(v.N), api.OK
}

// holds is the value of a kind that holds this number.
func holds(k int, x *big.Int) (api.Value, api.Errno) {
	switch k {
	case unsigned:
		if x.IsUint64() {
			return api.Value{Kind: k, N: x.Uint64()}, api.OK
		}
	case signed:
		if x.IsInt64() {
			return api.Value{Kind: k, N: uint64(x.Int64())}, api.OK
		}
	case truth:
		if x.IsUint64() && x.Uint64() < 2 {
			return api.Value{Kind: k, N: x.Uint64()}, api.OK
		}
	case text:
		return api.Value{Kind: k, S: x.String()}, api.OK
	}
	return api.Value{}, api.ErrRange
}

// plainApply is Apply as the chapter tells it.
func plainApply(number int, v api.Value) (api.Value, api.Errno) {
	if number < 1 || number > len(rows()) {
		return api.Value{}, api.ErrArg
	}
	r := rows()[number-1]
	if v.Kind != r.from || !plainValid(v) {
		return api.Value{}, api.ErrArg
	}
	switch r.name {
	case "bool-text":
		return api.Value{Kind: text, S: []string{"false", "true"}[v.N]}, api.OK
	case "text-bool":
		if at := slices.Index([]string{"false", "true"}, v.S); at >= 0 {
			return api.Value{Kind: truth, N: uint64(at)}, api.OK
		}
		return api.Value{}, api.ErrBool
	case "text-bytes":
		return api.Value{Kind: raw, S: v.S}, api.OK
	case "bytes-text":
		if utf8.ValidString(v.S) {
			return api.Value{Kind: text, S: v.S}, api.OK
		}
		return api.Value{}, api.ErrUtf
	}
	x, err := amount(v, r.to)
	if err != api.OK {
		return api.Value{}, err
	}
	return holds(r.to, x)
}

// show is a value as a text, for what a test tells.
func show(v api.Value) string {
	s := strconv.QuoteToASCII(v.S[:min(len(v.S), 60)])
	if len(v.S) > 60 {
		s += ".. (" + strconv.Itoa(len(v.S)) + ")"
	}
	return "{" + strconv.Itoa(v.Kind) + " " + strconv.FormatUint(v.N, 10) + " " + s + "}"
}

// lcg is a row of numbers that is the same in every run.
type lcg uint64

func (r *lcg) next() uint64 {
	*r = *r*6364136223846793005 + 1442695040888963407
	x := uint64(*r)
	return x ^ x>>29
}

// minus is the 64 bits of a number below 0.
func minus(x uint64) uint64 { return -x }

// numbers are those at which something could turn, with and without a sign, and some of each length.
func numbers() []uint64 {
	xs := []uint64{0, 1, 2, 3, 7, 9, 10, 11, 42, 99, 100, 101, 255, 256, 1<<32 - 1, 1 << 32, 1<<62 - 1, 1 << 62, 1<<63 - 2, 1<<63 - 1, 1 << 63, 1<<63 + 1, 1<<64 - 2, 1<<64 - 1}
	for x := uint64(10); x <= 1e18; x *= 10 {
		xs = append(xs, x-1, x, x+1, 9*x, 8*x+7)
	}
	r := lcg(6)
	for shift := range 64 {
		xs = append(xs, r.next()>>shift)
	}
	for _, x := range slices.Clone(xs) {
		xs = append(xs, minus(x))
	}
	slices.Sort(xs)
	return slices.Compact(xs)
}

// ends are the greatest and least numbers, and those around them, as texts.
func ends() []string {
	var out []string
	for _, s := range []string{"0", "9223372036854775807", "9223372036854775808", "18446744073709551615", "18446744073709551616", "99999999999999999999", "100000000000000000000", "36893488147419103232", "340282366920938463463374607431768211456"} {
		x, _ := new(big.Int).SetString(s, 10)
		for d := int64(-11); d <= 11; d++ {
			out = append(out, new(big.Int).Add(x, big.NewInt(d)).String())
		}
	}
	slices.Sort(out)
	return slices.Compact(out)
}

// numberTexts are texts that are numbers, within the bounds and outside of them.
func numberTexts() []string {
	var out []string
	for _, s := range ends() {
		digits := strings.TrimPrefix(s, "-")
		for _, ahead := range []string{"", "0", "00", strings.Repeat("0", 30)} {
			out = append(out, ahead+digits, "-"+ahead+digits)
		}
	}
	for _, n := range numbers() {
		out = append(out, strconv.FormatUint(n, 10), strconv.FormatInt(int64(n), 10))
	}
	for _, n := range []int{1, 2, 5, 18, 19, 20, 21, 64, 1000} {
		for _, digit := range []string{"0", "1", "9"} {
			out = append(out, strings.Repeat(digit, n), "-"+strings.Repeat(digit, n))
		}
	}
	slices.Sort(out)
	return slices.Compact(out)
}

// oddTexts are texts that are no numbers, or nearly none; all of them are valid UTF-8.
func oddTexts() []string {
	out := strings.Split(",-,--,--1,-+1,+1,+,+-1, 1,1 ,1\t,\t1,1\n,\n1,\x001,1\x00,1.0,1.,.1,-.1,1e3,0x1,0b1,0o7,1_0,_1,1_,1'0,1-,1-2,12-,- 1,-1-,/,:,1/,1:,/1,:1,;,?,a,x,-a,1a,a1,inf,nan,NaN,null,nil,zero,one,0-0,00-", ",")
	out = append(out, "1,0", ",")
	for _, one := range []rune{0x0661, 0x06f1, 0x0967, 0xff11, 0x00b9, 0x2081, 0x1d7d9, 0x4e00} { // digits that aren't 0 to 9
		out = append(out, string(one), "1"+string(one), string(one)+"1", "-"+string(one))
	}
	for _, sign := range []rune{0x2212, 0x2010, 0x2013, 0xff0d, 0x00ad} {
		out = append(out, string(sign)+"1", string(sign))
	}
	for _, s := range []string{"99999999999999999999", "18446744073709551616", "9223372036854775808", "0000000000000000000000", strings.Repeat("9", 300)} {
		for _, end := range []string{"x", "-", "+", " ", ".", "\x00", "/", ":", "é"} {
			out = append(out, s+end, "-"+s+end, end+s, s[:5]+end+s[5:], "--"+s)
		}
	}
	return out
}

// boolTexts are false, true and texts near them.
func boolTexts() []string {
	var out []string
	for _, s := range []string{"false", "true"} {
		out = append(out, s, s[1:], s[:len(s)-1], s[:1], s+" ", " "+s, s+"\n", s+"\x00", "\x00"+s, s+s, s+"e", strings.ToUpper(s), strings.ToUpper(s[:1])+s[1:], s[:1]+strings.ToUpper(s[1:]), "-"+s, "\""+s+"\"", s+"é")
	}
	return append(out, "falsetrue", "truefalse", "yes", "no", "on", "off", "0", "1", "F", "T", "falsch", "tru\u0435", "fals\u0435", "wahr")
}

// otherTexts are valid UTF-8.
func otherTexts() []string {
	return []string{"\x00", "\x7f", "\u0080", "é", "\u07ff", "\u0800", "€", "\ud7ff", "\ue000", "\ufffd", "\uffff", "\U00010000", "\U0001f600", "\U0010ffff", "aé€\U0001f600z", strings.Repeat("é", 1000)}
}

// texts are valid UTF-8, of all sorts.
func texts() []string {
	return slices.Concat(numberTexts(), oddTexts(), boolTexts(), otherTexts())
}

// noTexts are no valid UTF-8.
func noTexts() []string {
	out := []string{"\x80", "\xbf", "\xc3", "\xc3A", "\xc0\x80", "\xc1\xbf", "\xe0\x80\x80", "\xe2\x82", "\xe2\x82A", "\xed\xa0\x80", "\xed\xbf\xbf", "\xf0\x80\x80\x80", "\xf0\x9f\x98", "\xf4\x90\x80\x80", "\xf5\x80\x80\x80", "\xfe", "\xff", "\xff\xff", strings.Repeat("é", 1000) + "\xff"}
	for _, s := range []string{"1", "-1", "true", "18446744073709551616", "é"} {
		out = append(out, s+"\xff", "\xff"+s, s+"\xc3")
	}
	return out
}

// valids are valid values of all kinds.
func valids() []api.Value {
	out := []api.Value{{Kind: truth}, {Kind: truth, N: 1}}
	for _, n := range numbers() {
		out = append(out, api.Value{Kind: unsigned, N: n}, api.Value{Kind: signed, N: n})
	}
	for _, s := range texts() {
		out = append(out, api.Value{Kind: text, S: s}, api.Value{Kind: raw, S: s})
	}
	for _, s := range noTexts() {
		out = append(out, api.Value{Kind: raw, S: s})
	}
	return out
}

// invalids are values that aren't valid, most of which would be but for one part.
func invalids() []api.Value {
	var out []api.Value
	some := []uint64{0, 1, 2, 7, 1<<63 - 1, 1 << 63, 1<<64 - 1}
	for _, s := range []string{"\x00", "0", "7", "-7", "x", "true", "é", "\xff"} {
		for _, n := range some {
			for _, k := range []int{unsigned, signed, truth} {
				out = append(out, api.Value{Kind: k, N: n, S: s})
			}
		}
	}
	for _, n := range numbers() {
		for _, s := range []string{"", "7", "x", "true", "false", "é", "\xff"} {
			if n > 0 {
				out = append(out, api.Value{Kind: text, N: n, S: s}, api.Value{Kind: raw, N: n, S: s})
			}
		}
		if n > 1 {
			out = append(out, api.Value{Kind: truth, N: n})
		}
	}
	for _, s := range noTexts() {
		out = append(out, api.Value{Kind: text, S: s})
	}
	for _, k := range noKinds() {
		for _, n := range some {
			out = append(out, api.Value{Kind: k, N: n}, api.Value{Kind: k, N: n, S: "7"})
		}
	}
	return out
}

// ofKind are the valid values of a kind.
func ofKind(k int) []api.Value {
	return slices.DeleteFunc(valids(), func(v api.Value) bool { return v.Kind != k })
}
