package table_test

import (
	"cmp"
	"math"
	"slices"
	"strings"
	"testing"

	"stratum/api"
	"stratum/table"
)

func wantTyped(t *testing.T, cols []api.Column, rec []api.Field, want api.Errno) {
	t.Helper()
	if err := table.Typed(cols, rec); err != want {
		t.Errorf("Typed(%s, %s): %d, not %d", show(cols), show(rec), err, want)
	}
}

// The chapter's example 3

func TestExamplesOfTyped(t *testing.T) {
	cols := order().Types[0].Versions[0].Columns
	seven, x := field(1, 1, 7, ""), field(2, 4, 0, "x")
	wantTyped(t, cols, []api.Field{seven, x}, api.OK)
	wantTyped(t, cols, []api.Field{seven}, api.ErrTyped)
	wantTyped(t, cols, []api.Field{x, seven}, api.ErrTyped)
	wantTyped(t, cols, []api.Field{seven, field(2, 3, 1, "")}, api.ErrTyped)
	wantTyped(t, cols, []api.Field{seven, field(2, 4, 0, "\xff")}, api.ErrTyped)
	wantTyped(t, cols, []api.Field{seven, x, field(3, 4, 0, "y")}, api.ErrTyped)
	wantTyped(t, nil, nil, api.OK)
}

// allKinds are columns of all kinds, of tags near each other and far, to the greatest.
func allKinds() []api.Column {
	return []api.Column{col("a", 1, unsigned), col("b", 2, signed), col("c", 5, truth), col("d", 15, text), col("e", 16, raw), col("f", 8000, text), col("g", 65534, raw), col("h", 65535, unsigned)}
}

// recordOf is a record of columns that can have one.
func recordOf(cols []api.Column) []api.Field {
	var rec []api.Field
	for _, c := range cols {
		rec = append(rec, api.Field{Tag: c.Tag, Val: valuesOf(c.Kind)[0]})
	}
	return rec
}

// valuesOf are valid values of a kind.
func valuesOf(kind int) []api.Value {
	var all []api.Value
	switch kind {
	case unsigned, signed:
		for _, n := range []uint64{7, 0, 1, 127, 128, 1 << 32, 1<<63 - 1, 1 << 63, 1<<64 - 2, 1<<64 - 1} {
			all = append(all, api.Value{Kind: kind, N: n})
		}
	case truth:
		all = append(all, api.Value{Kind: kind}, api.Value{Kind: kind, N: 1})
	case text, raw:
		for _, s := range []string{"ab", "", "\x00", "é", "\U0010ffff", strings.Repeat("é", 10000)} {
			all = append(all, api.Value{Kind: kind, S: s})
		}
	}
	if kind == raw {
		all = append(all, api.Value{Kind: kind, S: "\xff"}, api.Value{Kind: kind, S: "\xed\xa0\x80"})
	}
	return all
}

// notOf are values that have a kind and aren't valid.
func notOf(kind int) []api.Value {
	var all []api.Value
	switch kind {
	case unsigned, signed:
		all = append(all, api.Value{Kind: kind, N: 7, S: "x"}, api.Value{Kind: kind, S: "\x00"}, api.Value{Kind: kind, S: "7"}, api.Value{Kind: kind, N: 1<<64 - 1, S: "\xff"})
	case truth:
		for _, n := range []uint64{2, 3, 255, 256, 1 << 32, 1<<32 + 1, 1 << 63, 1<<64 - 1} {
			all = append(all, api.Value{Kind: kind, N: n})
		}
		all = append(all, api.Value{Kind: kind, S: "x"}, api.Value{Kind: kind, N: 1, S: "true"})
	case text, raw:
		for _, n := range []uint64{1, 2, 1 << 32, 1 << 63, 1<<64 - 1} {
			all = append(all, api.Value{Kind: kind, N: n}, api.Value{Kind: kind, N: n, S: "a"})
		}
	}
	if kind == text {
		for _, s := range []string{"\xff", "a\xff", "\xc3", "\xc0\x80", "\xed\xa0\x80", "\xf4\x90\x80\x80", strings.Repeat("a", 100000) + "\x80"} {
			all = append(all, api.Value{Kind: kind, S: s})
		}
	}
	return all
}

// P13.4: ErrTyped

func TestTypedOfAsManyFieldsAsColumns(t *testing.T) {
	cols := allKinds()
	for n := range len(cols) + 1 {
		wantTyped(t, cols[:n], recordOf(cols[:n]), api.OK)
		wantTyped(t, cols[n:], recordOf(cols[n:]), api.OK)
		for m := range len(cols) + 1 {
			if m != n {
				wantTyped(t, cols[:n], recordOf(cols[:m]), api.ErrTyped)
			}
		}
	}
	for i := range cols { // one too few, one too many, at every place
		fewer := slices.Delete(slices.Clone(cols), i, i+1)
		wantTyped(t, cols, recordOf(fewer), api.ErrTyped)
		wantTyped(t, fewer, recordOf(cols), api.ErrTyped)
		wantTyped(t, fewer, recordOf(fewer), api.OK)
	}
}

func TestTypedOfNoColumnsAndNoFields(t *testing.T) {
	for _, cols := range [][]api.Column{nil, {}} {
		for _, rec := range [][]api.Field{nil, {}} {
			wantTyped(t, cols, rec, api.OK)
			wantTyped(t, cols, []api.Field{field(1, unsigned, 1, "")}, api.ErrTyped)
			wantTyped(t, cols, []api.Field{{}}, api.ErrTyped)
			wantTyped(t, []api.Column{col("a", 1, unsigned)}, rec, api.ErrTyped)
			wantTyped(t, []api.Column{{}}, rec, api.ErrTyped)
		}
	}
	wantTyped(t, []api.Column{{}}, []api.Field{{}}, api.ErrTyped)
}

func TestTypedWithATagChanged(t *testing.T) {
	cols := allKinds()
	for i, c := range cols {
		for _, tag := range append(far(), -1, 0, c.Tag-1, c.Tag+1, -c.Tag, c.Tag+65536, c.Tag+1<<32, 14, 10000, 65533) {
			if tag == c.Tag {
				continue
			}
			rec := recordOf(cols)
			rec[i].Tag = tag
			wantTyped(t, cols, rec, api.ErrTyped)
			other := slices.Clone(cols)
			other[i].Tag = tag
			wantTyped(t, other, recordOf(cols), api.ErrTyped)
		}
	}
	for i := range cols { // two fields in each other's place
		for j := range i {
			rec := recordOf(cols)
			rec[i], rec[j] = rec[j], rec[i]
			wantTyped(t, cols, rec, api.ErrTyped)
		}
	}
}

func TestTypedWithAKindChanged(t *testing.T) {
	cols := allKinds()
	for i, c := range cols {
		for kind := unsigned; kind <= raw; kind++ {
			for _, v := range valuesOf(kind) { // valid, if of this kind
				rec := recordOf(cols)
				rec[i].Val = v
				if kind == c.Kind {
					wantTyped(t, cols, rec, api.OK)
				} else {
					wantTyped(t, cols, rec, api.ErrTyped)
				}
			}
			if kind != c.Kind { // the number of the kind alone
				rec := recordOf(cols)
				rec[i].Val.Kind = kind
				wantTyped(t, cols, rec, api.ErrTyped)
			}
		}
		for _, kind := range noKinds() {
			rec := recordOf(cols)
			rec[i].Val.Kind = kind
			wantTyped(t, cols, rec, api.ErrTyped)
			other := slices.Clone(cols)
			other[i].Kind = kind
			wantTyped(t, other, recordOf(cols), api.ErrTyped)
			wantTyped(t, other, rec, api.ErrTyped) // of a kind that is none no value is valid
			rec[i].Val = api.Value{Kind: kind}
			wantTyped(t, other, rec, api.ErrTyped)
		}
	}
}

func TestTypedWithAValueThatIsNotValid(t *testing.T) {
	cols := allKinds()
	for i, c := range cols {
		if len(notOf(c.Kind)) < 4 {
			t.Fatal(c)
		}
		for _, v := range notOf(c.Kind) {
			rec := recordOf(cols)
			rec[i].Val = v
			wantTyped(t, cols, rec, api.ErrTyped)
			wantTyped(t, cols[i:i+1], rec[i:i+1], api.ErrTyped)
		}
	}
}

// TestTypedOfColumnsOfWhichNoRecordIs has columns with the very tags and kinds of fields, all of valid values.
func TestTypedOfColumnsOfWhichNoRecordIs(t *testing.T) {
	for _, tags := range [][]int{
		{0}, {-1}, {65536}, {65537}, {math.MinInt}, {math.MaxInt}, {1<<32 + 1}, {math.MinInt + 1},
		{1, 1}, {2, 1}, {65535, 65535}, {65535, 1}, {65535, 65536}, {0, 1}, {-1, 1}, {-2, -1}, {-1, -1}, {0, 0},
		{1, 2, 2}, {1, 1, 2}, {1, 3, 2}, {3, 1, 2}, {2, 1, 3}, {1, 2, 0}, {1, 2, -1}, {1, 2, 65536}, {1, 0, 2}, {3, 2, 1}, {1, 2, 1}, {65536, 65537},
		{1, 2, 3, 4, 5, 5}, {1, 2, 3, 4, 5, 4}, {2, 1, 3, 4, 5, 6}, {1, 2, 3, 4, 5, 65536}, {0, 1, 2, 3, 4, 5}, {math.MaxInt, math.MinInt},
	} {
		for kind := unsigned; kind <= raw; kind++ {
			var cols []api.Column
			for i, tag := range tags {
				cols = append(cols, col(string(rune('a'+i)), tag, kind))
			}
			wantTyped(t, cols, recordOf(cols), api.ErrTyped)
			for k := unsigned; k <= raw; k++ { // nor are other fields
				rec := recordOf(cols)
				for i := range rec {
					rec[i] = api.Field{Tag: i + 1, Val: valuesOf(k)[0]}
				}
				wantTyped(t, cols, rec, api.ErrTyped)
			}
			wantTyped(t, cols, nil, api.ErrTyped)
			wantTyped(t, cols, make([]api.Field, len(cols)), api.ErrTyped)
			rising := recordOf(cols)
			slices.SortFunc(rising, func(a, b api.Field) int { return cmp.Compare(a.Tag, b.Tag) })
			wantTyped(t, cols, slices.CompactFunc(rising, func(a, b api.Field) bool { return a.Tag == b.Tag }), api.ErrTyped)
		}
	}
}

func TestNamesPlayNoPartInTyped(t *testing.T) {
	cols := allKinds()
	for _, name := range texts() {
		for i := range cols {
			cols[i].Name = name
		}
		wantTyped(t, cols, recordOf(cols), api.OK)
	}
	wantTyped(t, []api.Column{{Tag: 1, Kind: unsigned}}, []api.Field{field(1, unsigned, 1, "")}, api.OK)
}

func TestTypedOfAllTags(t *testing.T) {
	var cols []api.Column
	for tag := 1; tag <= 65535; tag++ {
		cols = append(cols, col("", tag, 1+tag%5))
	}
	rec := recordOf(cols)
	wantTyped(t, cols, rec, api.OK)
	for _, i := range []int{0, 1, 32767, 65533, 65534} {
		wrong := slices.Clone(rec)
		wrong[i].Val = notOf(cols[i].Kind)[0]
		wantTyped(t, cols, wrong, api.ErrTyped)
	}
	wantTyped(t, append(cols, col("", 65536, unsigned)), append(rec, field(65536, unsigned, 1, "")), api.ErrTyped)
}

// P13.4: ErrLong

// long is so many bytes, of UTF-8.
func long(n int) string { return strings.Repeat("z", n) }

// lastLong is a record with these fields ahead, and one of the tag 65535 that makes it just so many bytes long.
func lastLong(t *testing.T, kind int, size int, ahead ...api.Field) ([]api.Column, []api.Field) {
	t.Helper()
	rec := append(slices.Clone(ahead), field(65535, kind, 0, ""))
	for range 2 { // the length of the length is found by trying
		rec[len(rec)-1].Val.S = long(size - plainSize(rec) + len(rec[len(rec)-1].Val.S))
	}
	if plainSize(rec) != size {
		t.Fatal("a record of", plainSize(rec), "bytes, not of", size)
	}
	return columnsOf(rec), rec
}

// columnsOf are the columns of which a record is.
func columnsOf(rec []api.Field) []api.Column {
	var cols []api.Column
	for _, f := range rec {
		cols = append(cols, col("c", f.Tag, f.Val.Kind))
	}
	return cols
}

// heads are what may stand ahead of a long field: nothing, fields of each kind, many fields, other long ones.
func heads() [][]api.Field {
	out := [][]api.Field{nil, recordOf(allKinds()[:6])}
	for kind := unsigned; kind <= raw; kind++ {
		for _, v := range valuesOf(kind) {
			out = append(out, []api.Field{{Tag: 3, Val: v}})
		}
	}
	var many []api.Field
	for tag := 1; tag <= 60000; tag += 7 {
		many = append(many, api.Field{Tag: tag, Val: valuesOf(1 + tag%5)[0]})
	}
	return append(out, many, []api.Field{field(1, raw, 0, long(9000000)), field(2, text, 0, long(7000000))})
}

func TestTypedOfJustMaxRecordBytes(t *testing.T) {
	for _, ahead := range heads() {
		for _, kind := range []int{text, raw} {
			cols, rec := lastLong(t, kind, 16777215, ahead...)
			wantTyped(t, cols, rec, api.OK)
			cols, rec = lastLong(t, kind, 16777214, ahead...)
			wantTyped(t, cols, rec, api.OK)
			cols, rec = lastLong(t, kind, 16777216, ahead...)
			wantTyped(t, cols, rec, api.ErrLong)
		}
	}
}

func TestTypedCountsKeysAndLengths(t *testing.T) {
	for _, c := range []struct {
		rec  []api.Field
		want api.Errno
	}{
		{[]api.Field{field(1, raw, 0, long(16777210))}, api.OK}, // the key 1, the length 4
		{[]api.Field{field(1, raw, 0, long(16777211))}, api.ErrLong},
		{[]api.Field{field(15, text, 0, long(16777210))}, api.OK},
		{[]api.Field{field(16, text, 0, long(16777210))}, api.ErrLong}, // a key of 2
		{[]api.Field{field(16, text, 0, long(16777209))}, api.OK},
		{[]api.Field{field(65535, raw, 0, long(16777208))}, api.OK}, // a key of 3
		{[]api.Field{field(65535, raw, 0, long(16777209))}, api.ErrLong},
		{[]api.Field{field(1, unsigned, 127, ""), field(2, raw, 0, long(16777207))}, api.OK}, // a field of 3
		{[]api.Field{field(1, unsigned, 128, ""), field(2, raw, 0, long(16777207))}, api.ErrLong},
		{[]api.Field{field(1, signed, 63, ""), field(2, raw, 0, long(16777207))}, api.OK},
		{[]api.Field{field(1, signed, 64, ""), field(2, raw, 0, long(16777207))}, api.ErrLong},
		{[]api.Field{field(1, signed, 1<<64-64, ""), field(2, raw, 0, long(16777207))}, api.OK},
		{[]api.Field{field(1, signed, 1<<64-65, ""), field(2, raw, 0, long(16777207))}, api.ErrLong},
		{[]api.Field{field(1, truth, 1, ""), field(2, raw, 0, long(16777207))}, api.OK},
		{[]api.Field{field(1, raw, 0, long(16777207)), field(2, truth, 1, "")}, api.OK},
		{[]api.Field{field(1, raw, 0, long(16777208)), field(2, truth, 1, "")}, api.ErrLong},
		{[]api.Field{field(1, text, 0, ""), field(2, raw, 0, long(16777208))}, api.OK}, // a field of 2
		{[]api.Field{field(1, text, 0, ""), field(2, raw, 0, long(16777209))}, api.ErrLong},
		{[]api.Field{field(1, text, 0, strings.Repeat("é", 8388605))}, api.OK}, // bytes are counted, not characters
		{[]api.Field{field(1, text, 0, strings.Repeat("é", 8388606))}, api.ErrLong},
	} {
		wantTyped(t, columnsOf(c.rec), c.rec, c.want)
	}
}

func TestTypedOfManyMoreBytes(t *testing.T) {
	s := long(16777210)
	var rec []api.Field
	for tag := 1; tag <= 100; tag++ {
		rec = append(rec, field(tag, raw, 0, s))
		if tag%33 == 1 || tag > 98 {
			wantTyped(t, columnsOf(rec), rec, map[bool]api.Errno{true: api.OK, false: api.ErrLong}[tag == 1])
		}
	}
	for _, n := range []int{1 << 24, 1<<24 + 1, 1<<24 + 5, 1 << 25, 1 << 26} {
		rec := []api.Field{field(1, raw, 0, long(n))}
		wantTyped(t, columnsOf(rec), rec, api.ErrLong)
	}
}

// TestWhatIsNotOfTheColumnsIsToldAheadOfTooLong has records that are too long by their first field, and in which something
// behind it, or in the columns, is as it can't be.
func TestWhatIsNotOfTheColumnsIsToldAheadOfTooLong(t *testing.T) {
	s := long(16777211)
	whole := func() ([]api.Column, []api.Field) {
		rec := []api.Field{field(1, raw, 0, s), field(2, text, 0, "a"), field(3, unsigned, 7, ""), field(4, raw, 0, s)}
		return columnsOf(rec), rec
	}
	cols, rec := whole()
	wantTyped(t, cols, rec, api.ErrLong)
	wantTyped(t, cols, rec[:3], api.ErrTyped)
	wantTyped(t, cols[:3], rec, api.ErrTyped)
	wantTyped(t, cols[:3], rec[:3], api.ErrLong)
	wantTyped(t, nil, rec, api.ErrTyped)
	for i := range rec {
		for _, tag := range append(far(), -1, 0, 5, 65536) {
			_, rec := whole()
			rec[i].Tag = tag
			wantTyped(t, cols, rec, api.ErrTyped)
			if !slices.IsSortedFunc(rec, func(a, b api.Field) int { return cmp.Compare(a.Tag, b.Tag) }) || tag < 1 || tag > 65535 {
				wantTyped(t, columnsOf(rec), rec, api.ErrTyped) // of columns that can't be, too
			}
		}
		for _, kind := range noKinds() {
			_, rec := whole()
			rec[i].Val.Kind = kind
			wantTyped(t, cols, rec, api.ErrTyped)
			wantTyped(t, columnsOf(rec), rec, api.ErrTyped)
		}
		_, rec := whole()
		rec[i].Val = api.Value{Kind: truth}
		wantTyped(t, cols, rec, api.ErrTyped)
		for _, v := range notOf(cols[i].Kind) {
			rec[i].Val = v
			wantTyped(t, cols, rec, api.ErrTyped)
			if i == 0 {
				rec[i].Val.S += s
				wantTyped(t, cols, rec, api.ErrTyped)
			}
		}
		_, rec = whole()
		if i > 0 {
			rec[i].Tag = rec[i-1].Tag
			wantTyped(t, columnsOf(rec), rec, api.ErrTyped)
			wantTyped(t, cols, rec, api.ErrTyped)
		}
	}
	wantTyped(t, []api.Column{col("a", 1, text)}, []api.Field{field(1, text, 0, s+"\xff")}, api.ErrTyped)
	wantTyped(t, []api.Column{col("a", 1, text)}, []api.Field{field(1, raw, 0, s)}, api.ErrTyped)
}

// By chance

// fieldFor is mostly one of a column.
func (r *lcg) fieldFor(c api.Column) api.Field {
	f := api.Field{Tag: c.Tag, Val: oneOf(r, append(valuesOf(c.Kind), api.Value{Kind: c.Kind})...)}
	switch r.below(40) {
	case 0:
		f.Tag = oneOf(r, append(far(), c.Tag-1, c.Tag+1)...)
	case 1:
		f.Val.Kind = oneOf(r, 0, 1, 2, 3, 4, 5, 6)
	case 2:
		f.Val = oneOf(r, append(notOf(c.Kind), f.Val)...)
	}
	return f
}

func TestTypedByChance(t *testing.T) {
	r := lcg(2)
	told := map[api.Errno]int{}
	for range 50000 {
		var cols []api.Column
		var rec []api.Field
		tag := 0
		for range r.below(8) {
			tag += oneOf(&r, 1, 1, 2, 2, 3, 100, 9000, 9000)
			if r.below(60) == 0 {
				tag += oneOf(&r, 0, -1, -2, -100, -65536, 65536)
			}
			cols = append(cols, col(r.rawName(), tag, oneOf(&r, 1, 2, 3, 4, 5)))
		}
		for _, c := range cols {
			if r.below(60) > 0 {
				rec = append(rec, r.fieldFor(c))
			}
			if r.below(100) == 0 {
				rec = append(rec, r.fieldFor(c))
			}
		}
		want := plainTyped(cols, rec)
		told[want]++
		wantTyped(t, cols, rec, want)
	}
	if told[api.OK] < 10000 || told[api.ErrTyped] < 10000 {
		t.Errorf("%v", told)
	}
}
