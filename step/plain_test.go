package step_test

import (
	"bytes"
	"cmp"
	"fmt"
	"math"
	"math/big"
	"slices"
	"strings"
	"unicode/utf8"

	"stratum/api"
)

// The calls as the chapter tells them, without the packages that step leans on; and what the tests have in common.

// The kinds' numbers, and those of the conversions that are named, as DOC.md's table has them.
const (
	unsigned = 1
	signed   = 2
	truth    = 3
	text     = 4
	raw      = 5

	uintText  = 3
	textUint  = 5
	textInt   = 6
	textBool  = 8
	textBytes = 11
	bytesText = 12
)

const most = 16777215 // bytes of a record, and of a text that a join makes

// plainValid: whether v is valid, as DOC.md's Words have it.
func plainValid(v api.Value) bool {
	switch v.Kind {
	case unsigned, signed:
		return v.S == ""
	case truth:
		return v.S == "" && (v.N == 0 || v.N == 1)
	case text:
		return v.N == 0 && utf8.ValidString(v.S)
	case raw:
		return v.N == 0
	}
	return false
}

// plainRecord: whether rec is a record, of any length in bytes.
func plainRecord(rec []api.Field) bool {
	for i, f := range rec {
		if f.Tag < 1 || f.Tag > 65535 || !plainValid(f.Val) {
			return false
		}
		for _, ahead := range rec[:i] {
			if ahead.Tag >= f.Tag {
				return false
			}
		}
	}
	return true
}

// plainGroups: how many groups of seven bits a number has.
func plainGroups(x uint64) int {
	n := 1
	for ; x >= 128; x /= 128 {
		n++
	}
	return n
}

// plainSize: how many bytes a record has.
func plainSize(rec []api.Field) int {
	size := 0
	for _, f := range rec {
		n := len(f.Val.S)
		switch {
		case f.Val.Kind == unsigned:
			n = plainGroups(f.Val.N)
		case f.Val.Kind == signed && f.Val.N < 1<<63:
			n = plainGroups(2 * f.Val.N)
		case f.Val.Kind == signed:
			n = plainGroups(2*(math.MaxUint64-f.Val.N) + 1)
		case f.Val.Kind == truth:
			n = 1
		}
		size += plainGroups(uint64(8*f.Tag+f.Val.Kind)) + plainGroups(uint64(n)) + n
	}
	return size
}

// conversion is one that there is, by chapter 6.
type conversion struct {
	number int
	from   int
	to     int
}

func conversions() []conversion {
	return []conversion{
		{1, unsigned, signed}, {2, signed, unsigned}, {3, unsigned, text}, {4, signed, text}, {5, text, unsigned}, {6, text, signed},
		{7, truth, text}, {8, text, truth}, {9, truth, unsigned}, {10, unsigned, truth}, {11, text, raw}, {12, raw, text},
	}
}

// plainNumber is the number that a value holds or writes, without a bound.
func plainNumber(v api.Value, below bool) (*big.Int, api.Errno) {
	x := new(big.Int)
	switch v.Kind {
	case signed:
		return x.SetInt64(int64(v.N)), api.OK
	case text:
		digits := v.S
		if below {
			digits = strings.TrimPrefix(digits, "-")
		}
		if digits == "" || strings.Trim(digits, "0123456789") != "" {
			return nil, api.ErrNumber
		}
		x.SetString(v.S, 10)
		return x, api.OK
	}
	return x.SetUint64(v.N), api.OK
}

// plainConvert is a valid value of the kind that a conversion takes, converted as chapter 6 tells it.
func plainConvert(c conversion, v api.Value) (api.Value, api.Errno) {
	out := api.Value{Kind: c.to}
	switch {
	case c.from == truth && c.to == text:
		out.S = []string{"false", "true"}[v.N]
		return out, api.OK
	case c.from == text && c.to == truth:
		at := slices.Index([]string{"false", "true"}, v.S)
		if at < 0 {
			return api.Value{}, api.ErrBool
		}
		out.N = uint64(at)
		return out, api.OK
	case c.from == raw || c.to == raw:
		out.S = v.S
		if !plainValid(out) {
			return api.Value{}, api.ErrUtf
		}
		return out, api.OK
	}
	x, err := plainNumber(v, c.to == signed)
	if err != api.OK {
		return api.Value{}, err
	}
	switch {
	case c.to == text:
		out.S = x.String()
	case c.to == signed && x.IsInt64():
		out.N = uint64(x.Int64())
	case c.to != signed && x.IsUint64():
		out.N = x.Uint64()
	default:
		return api.Value{}, api.ErrRange
	}
	if !plainValid(out) {
		return api.Value{}, api.ErrRange
	}
	return out, api.OK
}

// plainOf are the fields of a tag, none or one.
func plainOf(rec []api.Field, tag int) []api.Field {
	var all []api.Field
	for _, f := range rec {
		if f.Tag == tag {
			all = append(all, f)
		}
	}
	return all
}

func plainIsText(rec []api.Field, tag int) bool {
	found := plainOf(rec, tag)
	return len(found) == 1 && found[0].Val.Kind == text
}

// plainFree: whether all of these tags can be tags, and no field has one.
func plainFree(rec []api.Field, tags ...int) bool {
	for _, tag := range tags {
		if tag < 1 || tag > 65535 || len(plainOf(rec, tag)) > 0 {
			return false
		}
	}
	return true
}

// plainInstead is the record without the fields of these tags, and with new ones.
func plainInstead(rec []api.Field, tags []int, with ...api.Field) []api.Field {
	out := slices.DeleteFunc(slices.Clone(rec), func(f api.Field) bool { return slices.Contains(tags, f.Tag) })
	out = append(out, with...)
	slices.SortFunc(out, func(a api.Field, b api.Field) int { return cmp.Compare(a.Tag, b.Tag) })
	return out
}

func plainSplit(s api.Step, rec []api.Field) ([]api.Field, api.Errno) {
	if !plainIsText(rec, s.A) || !plainFree(rec, s.B, s.C) || s.B == s.C || s.Sep == "" || !utf8.ValidString(s.Sep) {
		return nil, api.ErrTyped
	}
	head, tail, _ := bytes.Cut([]byte(plainOf(rec, s.A)[0].Val.S), []byte(s.Sep))
	return plainInstead(rec, []int{s.A}, words(s.B, string(head)), words(s.C, string(tail))), api.OK
}

func plainJoin(s api.Step, rec []api.Field) ([]api.Field, api.Errno) {
	if !plainIsText(rec, s.A) || !plainIsText(rec, s.B) || s.A == s.B || !plainFree(rec, s.C) || !utf8.ValidString(s.Sep) {
		return nil, api.ErrTyped
	}
	whole := plainOf(rec, s.A)[0].Val.S + s.Sep + plainOf(rec, s.B)[0].Val.S
	if len(whole) > most {
		return nil, api.ErrLong
	}
	return plainInstead(rec, []int{s.A, s.B}, words(s.C, whole)), api.OK
}

func plainRetype(s api.Step, rec []api.Field) ([]api.Field, api.Errno) {
	for _, c := range conversions() {
		for _, f := range plainOf(rec, s.A) {
			if c.number == s.Conv && c.from == f.Val.Kind {
				v, err := plainConvert(c, f.Val)
				if err != api.OK {
					return nil, err
				}
				return plainInstead(rec, []int{s.A}, api.Field{Tag: s.A, Val: v}), api.OK
			}
		}
	}
	return nil, api.ErrTyped
}

// plainApply is Apply as the chapter tells it.
func plainApply(s api.Step, rec []api.Field) ([]api.Field, api.Errno) {
	if !plainRecord(rec) {
		return nil, api.ErrTyped
	}
	return plainDo(s, rec)
}

// plainDo is a step over a record.
func plainDo(s api.Step, rec []api.Field) ([]api.Field, api.Errno) {
	there := len(plainOf(rec, s.A)) == 1
	switch {
	case s.Kind == api.StepAdd && plainValid(s.Val) && plainFree(rec, s.A):
		return plainInstead(rec, nil, api.Field{Tag: s.A, Val: s.Val}), api.OK
	case s.Kind == api.StepRename && there:
		return rec, api.OK
	case s.Kind == api.StepSplit:
		return plainSplit(s, rec)
	case s.Kind == api.StepJoin:
		return plainJoin(s, rec)
	case s.Kind == api.StepRetype:
		return plainRetype(s, rec)
	case s.Kind == api.StepDrop && there:
		return plainInstead(rec, []int{s.A}), api.OK
	}
	return nil, api.ErrTyped
}

// plainTyped is table.Typed as chapter 13 tells it.
func plainTyped(cols []api.Column, rec []api.Field) api.Errno {
	if len(cols) != len(rec) || !plainRecord(rec) {
		return api.ErrTyped
	}
	for i, f := range rec {
		if f.Tag != cols[i].Tag || f.Val.Kind != cols[i].Kind {
			return api.ErrTyped
		}
	}
	if plainSize(rec) > most {
		return api.ErrLong
	}
	return api.OK
}

// plainLift is Lift as the chapter tells it.
func plainLift(h api.History, typ int, from int, to int, rec []api.Field) ([]api.Field, api.Errno) {
	if typ < 0 || typ >= len(h.Types) {
		return nil, api.ErrType
	}
	versions := h.Types[typ].Versions
	if from < 1 || to > len(versions) || from > to {
		return nil, api.ErrVersion
	}
	if err := plainTyped(versions[from-1].Columns, rec); err != api.OK {
		return nil, err
	}
	for i, v := range versions {
		for _, s := range v.Steps {
			if i < from || i >= to {
				continue
			}
			var err api.Errno
			if rec, err = plainDo(s, rec); err != api.OK {
				return nil, err
			}
		}
	}
	if plainSize(rec) > most {
		return nil, api.ErrLong
	}
	return rec, api.OK
}

// Fields, records and steps

func words(tag int, s string) api.Field {
	return api.Field{Tag: tag, Val: api.Value{Kind: text, S: s}}
}

func rawBytes(tag int, s string) api.Field {
	return api.Field{Tag: tag, Val: api.Value{Kind: raw, S: s}}
}

func number(tag int, n uint64) api.Field {
	return api.Field{Tag: tag, Val: api.Value{Kind: unsigned, N: n}}
}

func whole(tag int, n int64) api.Field {
	return api.Field{Tag: tag, Val: api.Value{Kind: signed, N: uint64(n)}}
}

func yes(tag int) api.Field {
	return api.Field{Tag: tag, Val: api.Value{Kind: truth, N: 1}}
}

func no(tag int) api.Field {
	return api.Field{Tag: tag, Val: api.Value{Kind: truth}}
}

func record(fields ...api.Field) []api.Field { return fields }

func add(f api.Field) api.Step {
	return api.Step{Kind: api.StepAdd, A: f.Tag, Val: f.Val}
}

func rename(a int) api.Step {
	return api.Step{Kind: api.StepRename, A: a}
}

func split(a int, sep string, b int, c int) api.Step {
	return api.Step{Kind: api.StepSplit, A: a, B: b, C: c, Sep: sep}
}

func join(a int, b int, sep string, c int) api.Step {
	return api.Step{Kind: api.StepJoin, A: a, B: b, C: c, Sep: sep}
}

func retype(a int, conv int) api.Step {
	return api.Step{Kind: api.StepRetype, A: a, Conv: conv}
}

func drop(a int) api.Step {
	return api.Step{Kind: api.StepDrop, A: a}
}

// long is a text of so many bytes.
func long(n int) string { return strings.Repeat("a", n) }

// show is anything as a text, cut short where it is long.
func show(what any) string {
	s := strings.ReplaceAll(fmt.Sprintf("%#v", what), "api.", "")
	if len(s) > 1000 {
		return s[:1000] + ".."
	}
	return s
}

// lcg is a row of numbers that is the same in every run.
type lcg uint64

func (r *lcg) below(n int) int {
	*r = *r*6364136223846793005 + 1442695040888963407
	return int(uint64(*r) >> 33 % uint64(n))
}

func oneOf[T any](r *lcg, all ...T) T {
	return all[r.below(len(all))]
}

// far are whole numbers far away and at the ends: none of them is a tag, a step's kind, a conversion's number, a type's
// place or a version.
func far() []int {
	return []int{math.MinInt, math.MinInt + 1, math.MinInt32, -65536, -65535, -3, -2, -1, 65536, 65537, 131071, math.MaxInt32, 1 << 32, 1<<32 + 1, 1<<32 + 5, 1 << 62, math.MaxInt - 1, math.MaxInt}
}

// noTags are numbers that are no tags.
func noTags() []int { return append(far(), 0) }

// noText are texts that are no UTF-8.
func noText() []string {
	return []string{"\xff", "a\xff", "\xffa", "\x80", "\xc3", "\xc0\x80", "\xe2\x82", "\xed\xa0\x80", "\xf4\x90\x80\x80", ",\xc3", strings.Repeat("é", 1000) + "\xa9"}
}

// noValues are values that aren't valid.
func noValues() []api.Value {
	all := []api.Value{{}, {N: 1}, {S: "x"}, {Kind: 6}, {Kind: -1}, {Kind: math.MaxInt}, {Kind: math.MinInt, N: 7}, {Kind: 1<<32 + 1, N: 7}}
	for _, k := range []int{unsigned, signed, truth} {
		all = append(all, api.Value{Kind: k, S: "x"}, api.Value{Kind: k, N: 1, S: "1"}, api.Value{Kind: k, S: "\x00"})
	}
	for _, n := range []uint64{2, 256, 1 << 32, 1<<32 + 1, 1<<64 - 1} {
		all = append(all, api.Value{Kind: truth, N: n}, api.Value{Kind: text, N: n, S: "a"}, api.Value{Kind: raw, N: n, S: "a"})
	}
	all = append(all, api.Value{Kind: text, N: 1}, api.Value{Kind: raw, N: 1})
	for _, s := range noText() {
		all = append(all, api.Value{Kind: text, S: s})
	}
	return all
}

// valuesOf are valid values of a kind; of each kind some can be converted, by each conversion, and some can't.
func valuesOf(kind int) []api.Value {
	var all []api.Value
	switch kind {
	case unsigned, signed:
		for _, n := range []uint64{7, 0, 1, 2, 127, 128, 1<<63 - 1, 1 << 63, 1<<64 - 1} {
			all = append(all, api.Value{Kind: kind, N: n})
		}
	case truth:
		all = append(all, api.Value{Kind: kind}, api.Value{Kind: kind, N: 1})
	case text, raw:
		for _, s := range []string{"a,b,c", "", ",", "x", "7", "007", "-7", "-0", "-", "+1", "true", "false", "True", "é,é", "\x00", "18446744073709551615", "18446744073709551616", "9223372036854775808", "-9223372036854775808", "-9223372036854775809"} {
			all = append(all, api.Value{Kind: kind, S: s})
		}
	}
	if kind == raw {
		all = append(all, api.Value{Kind: kind, S: "\xff"}, api.Value{Kind: kind, S: "\xed\xa0\x80"})
	}
	return all
}
