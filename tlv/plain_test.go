package tlv_test

import (
	"bytes"
	"encoding/hex"
	"math"
	"slices"
	"strconv"
	"strings"
	"testing"
	"unicode/utf8"

	"stratum/api"
)

// Records as the chapter tells them, without the packages that tlv leans on; and what the tests try.

// The kinds' numbers, as DOC.md's table has them.
const (
	unsigned = 1
	signed   = 2
	truth    = 3
	text     = 4
	raw      = 5
)

func field(tag int, k int, n uint64, s string) api.Field {
	return api.Field{Tag: tag, Val: api.Value{Kind: k, N: n, S: s}}
}

// one is a record of one field.
func one(tag int, k int, n uint64, s string) []api.Field {
	return []api.Field{field(tag, k, n, s)}
}

// minus is the 64 bits of a number below 0.
func minus(x uint64) uint64 { return -x }

// row is the bytes that a text of hex digits tells; blanks play no part.
func row(t *testing.T, digits string) []byte {
	t.Helper()
	b, err := hex.DecodeString(strings.ReplaceAll(digits, " ", ""))
	if err != nil {
		t.Fatal(err)
	}
	return b
}

// show is a record as a text, for what a test tells.
func show(rec []api.Field) string {
	var out []string
	for _, f := range rec {
		s := strconv.QuoteToASCII(f.Val.S[:min(len(f.Val.S), 20)])
		out = append(out, strconv.Itoa(f.Tag)+": "+strconv.Itoa(f.Val.Kind)+" "+strconv.FormatUint(f.Val.N, 10)+" "+s)
	}
	if len(out) > 6 {
		out = append(out[:6], strconv.Itoa(len(rec))+" in all")
	}
	return "{" + strings.Join(out, ", ") + "}"
}

// showBytes is the front of a list of bytes, for what a test tells.
func showBytes(b []byte) string {
	if len(b) > 40 {
		return hex.EncodeToString(b[:40]) + ".. (" + strconv.Itoa(len(b)) + ")"
	}
	return hex.EncodeToString(b)
}

// plainNumber is a number's bytes, by division.
func plainNumber(x uint64) []byte {
	groups := []byte{byte(x % 128)}
	for x /= 128; x > 0; x /= 128 {
		groups[len(groups)-1] += 128
		groups = append(groups, byte(x%128))
	}
	return groups
}

// padded is a number's bytes with groups of 0 behind them, which no number has.
func padded(x uint64, more int) []byte {
	b := plainNumber(x)
	for range more {
		b[len(b)-1] |= 128
		b = append(b, 0)
	}
	return b
}

// plainPayload is a value's payload.
func plainPayload(v api.Value) []byte {
	switch v.Kind {
	case unsigned:
		return plainNumber(v.N)
	case signed:
		if v.N < 1<<63 {
			return plainNumber(2 * v.N)
		}
		return plainNumber(2*(math.MaxUint64-v.N) + 1)
	case truth:
		return []byte{byte(v.N)}
	}
	return []byte(v.S)
}

// plainField is a field's bytes.
func plainField(f api.Field) []byte {
	payload := plainPayload(f.Val)
	return slices.Concat(plainNumber(8*uint64(f.Tag)+uint64(f.Val.Kind)), plainNumber(uint64(len(payload))), payload)
}

// plainBytes is a record's bytes.
func plainBytes(rec []api.Field) []byte {
	var out []byte
	for _, f := range rec {
		out = append(out, plainField(f)...)
	}
	return out
}

// plainValid: whether v is valid, as DOC.md's Words have it.
func plainValid(v api.Value) bool {
	switch v.Kind {
	case unsigned, signed:
		return v.S == ""
	case truth:
		return v.S == "" && (v.N == 0 || v.N == 1)
	case text:
		return v.N == 0 && utf8.ValidString(v.S)
	case raw:
		return v.N == 0
	}
	return false
}

// plainFault is the place of the first field that can't stand; -1 if there is none.
func plainFault(rec []api.Field) int {
	for i, f := range rec {
		if f.Tag < 1 || f.Tag > 65535 || i > 0 && f.Tag <= rec[i-1].Tag || !plainValid(f.Val) {
			return i
		}
	}
	return -1
}

// looseNumber reads groups of seven bits, too many or too great ones too.
func looseNumber(b []byte) (uint64, []byte, bool) {
	x := uint64(0)
	for i, c := range b {
		x |= uint64(c%128) << (7 * i)
		if c < 128 {
			return x, b[i+1:], true
		}
	}
	return 0, nil, false
}

// looseValue reads a value of a payload, whatever stands behind it.
func looseValue(k int, payload []byte) (api.Value, bool) {
	switch k {
	case unsigned:
		x, _, ok := looseNumber(payload)
		return api.Value{Kind: k, N: x}, ok
	case signed:
		x, _, ok := looseNumber(payload)
		if x%2 == 1 {
			return api.Value{Kind: k, N: math.MaxUint64 - x/2}, ok
		}
		return api.Value{Kind: k, N: x / 2}, ok
	case truth:
		if len(payload) == 0 {
			return api.Value{}, false
		}
		return api.Value{Kind: k, N: uint64(payload[0])}, true
	}
	return api.Value{Kind: k, S: string(payload)}, true
}

// looseRecord reads fields of bytes, as long as there is anything to read them of.
func looseRecord(b []byte) ([]api.Field, bool) {
	var rec []api.Field
	for len(b) > 0 {
		key, behind, ok := looseNumber(b)
		if !ok || key/8 > math.MaxInt32 {
			return nil, false
		}
		size, rest, ok := looseNumber(behind)
		if !ok || size > uint64(len(rest)) {
			return nil, false
		}
		v, ok := looseValue(int(key%8), rest[:size])
		if !ok {
			return nil, false
		}
		rec = append(rec, api.Field{Tag: int(key / 8), Val: v})
		b = rest[size:]
	}
	return rec, true
}

// plainDecode is Decode as the chapter tells it: the record of which these bytes are made, if there is one.
func plainDecode(b []byte) ([]api.Field, api.Errno) {
	if len(b) > 16777215 {
		return nil, api.ErrLong
	}
	rec, ok := looseRecord(b)
	if !ok || plainFault(rec) >= 0 || !bytes.Equal(plainBytes(rec), b) {
		return nil, api.ErrMalformed
	}
	return rec, api.OK
}

// lcg is a row of numbers that is the same in every run.
type lcg uint64

func (r *lcg) next() uint64 {
	*r = *r*6364136223846793005 + 1442695040888963407
	x := uint64(*r)
	return x ^ x>>29
}

// numbers are those at which something could turn.
func numbers() []uint64 {
	xs := []uint64{0, 1, 2, 63, 64, 65, 127, 128, 129, 255, 256, 300, 16383, 16384, 1<<32 - 1, 1 << 32, 1<<62 - 1, 1 << 62, 1<<63 - 1, 1 << 63, 1<<63 + 1}
	for _, x := range slices.Clone(xs) {
		xs = append(xs, minus(x))
	}
	slices.Sort(xs)
	return slices.Compact(xs)
}

// texts are valid UTF-8.
func texts() []string {
	return []string{"", "\x00", "a", "ab", "n", "é", "€", "\ud7ff", "\ue000", "\U0001f600", "\U0010ffff", "\x7f", strings.Repeat("x", 127), strings.Repeat("x", 128), strings.Repeat("é", 100), strings.Repeat("y", 16383), strings.Repeat("z", 16384)}
}

// noTexts are no valid UTF-8.
func noTexts() []string {
	return []string{"\x80", "\xff", "\xc3", "a\xff", "\xc0\x80", "\xe2\x82", "\xed\xa0\x80", "\xf4\x90\x80\x80", strings.Repeat("x", 127) + "\xff"}
}

// values are valid ones of all kinds.
func values() []api.Value {
	all := []api.Value{{Kind: truth}, {Kind: truth, N: 1}}
	for _, n := range numbers() {
		all = append(all, api.Value{Kind: unsigned, N: n}, api.Value{Kind: signed, N: n})
	}
	for _, s := range texts() {
		all = append(all, api.Value{Kind: text, S: s}, api.Value{Kind: raw, S: s})
	}
	for _, s := range noTexts() {
		all = append(all, api.Value{Kind: raw, S: s})
	}
	return all
}

// noValues are not valid.
func noValues() []api.Value {
	all := []api.Value{{}, {Kind: unsigned, N: 5, S: "x"}, {Kind: unsigned, S: "\x00"}, {Kind: signed, N: 5, S: "5"}, {Kind: signed, S: "\xff"}, {Kind: truth, N: 2}, {Kind: truth, S: "x"}, {Kind: truth, N: 1, S: "1"}}
	for _, n := range numbers()[1:] {
		all = append(all, api.Value{Kind: text, N: n}, api.Value{Kind: text, N: n, S: "a"}, api.Value{Kind: raw, N: n}, api.Value{Kind: raw, N: n, S: "a"})
		if n > 1 {
			all = append(all, api.Value{Kind: truth, N: n})
		}
	}
	for _, s := range noTexts() {
		all = append(all, api.Value{Kind: text, S: s})
	}
	for _, k := range []int{math.MinInt, math.MinInt + 1, -256, -8, -7, -5, -1, 0, 6, 7, 8, 9, 12, 13, 255, 257, 1<<32 + 1, 1<<61 + 1, math.MaxInt} {
		all = append(all, api.Value{Kind: k}, api.Value{Kind: k, N: 1}, api.Value{Kind: k, S: "a"})
	}
	return all
}

// tags are those at which the key's length turns, and the ends.
func tags() []int {
	return []int{1, 2, 3, 14, 15, 16, 17, 127, 128, 255, 256, 2047, 2048, 2049, 8191, 8192, 32767, 32768, 65534, 65535}
}

// noTags are outside of what a tag may be.
func noTags() []int {
	return []int{math.MinInt, math.MinInt + 1, math.MinInt32, -65536, -65535, -16, -2, -1, 0, 65536, 65537, 65536 * 2, 1<<32 + 1, 1<<61 + 1, math.MaxInt - 1, math.MaxInt}
}

// mixed are records of many fields, the same in each run; none of them is long.
func mixed(count int) [][]api.Field {
	r := lcg(5)
	all := values()
	var out [][]api.Field
	for range count {
		var rec []api.Field
		for tag := int(r.next() % 20); tag <= 65535 && len(rec) < 8; tag += 1 + int(r.next()%3)*int(r.next()%3)*int(r.next()%4000) {
			if v := all[r.next()%uint64(len(all))]; tag > 0 && len(v.S) < 300 {
				rec = append(rec, api.Field{Tag: tag, Val: v})
			}
		}
		out = append(out, rec)
	}
	return out
}

// samples are records: of one field each, of every value at tag 1 and at others; mixed ones; and the one of no field.
func samples() [][]api.Field {
	out := [][]api.Field{nil, {}}
	for _, v := range values() {
		for _, tag := range tags() {
			if tag == 1 || len(v.S) < 300 {
				out = append(out, []api.Field{{Tag: tag, Val: v}})
			}
		}
	}
	return append(out, mixed(400)...)
}

// small are records of few bytes, for what is tried at each of them.
func small() [][]api.Field {
	out := [][]api.Field{
		{field(1, unsigned, 5, ""), field(2, text, 0, "n")},
		{field(1, unsigned, 1<<64-1, ""), field(2, signed, 1<<63, ""), field(3, truth, 1, "")},
		{field(15, truth, 0, ""), field(16, text, 0, "é€"), field(2047, raw, 0, "\xff\x00"), field(2048, text, 0, "")},
		{field(65534, signed, minus(65), ""), field(65535, raw, 0, "")},
		{field(1, text, 0, "a\U0001f600"), field(300, unsigned, 300, "")},
	}
	for _, rec := range mixed(60) {
		if b := plainBytes(rec); len(b) < 40 {
			out = append(out, rec)
		}
	}
	return out
}
