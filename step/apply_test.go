package step_test

import (
	"math"
	"slices"
	"strings"
	"testing"

	"stratum/api"
	"stratum/conv"
	"stratum/step"
)

// P14.2

// wantApply looks what Apply answers, and that the model says so too.
func wantApply(t *testing.T, s api.Step, rec []api.Field, want []api.Field, wantErr api.Errno) {
	t.Helper()
	if out, err := step.Apply(s, rec); !slices.Equal(out, want) || err != wantErr {
		t.Errorf("Apply(%s, %s): %s, %d, not %s, %d", show(s), show(rec), show(out), err, show(want), wantErr)
	}
	if out, err := plainApply(s, rec); !slices.Equal(out, want) || err != wantErr {
		t.Errorf("the model of Apply(%s, %s): %s, %d, not %s, %d", show(s), show(rec), show(out), err, show(want), wantErr)
	}
}

func wantDone(t *testing.T, s api.Step, rec []api.Field, want ...api.Field) {
	t.Helper()
	wantApply(t, s, rec, want, api.OK)
}

func wantRefused(t *testing.T, s api.Step, rec ...api.Field) {
	t.Helper()
	wantApply(t, s, rec, nil, api.ErrTyped)
}

// wantAsModel looks that Apply answers what the model does, and tells that.
func wantAsModel(t *testing.T, s api.Step, rec []api.Field) api.Errno {
	t.Helper()
	want, wantErr := plainApply(s, rec)
	if out, err := step.Apply(s, rec); !slices.Equal(out, want) || err != wantErr {
		t.Errorf("Apply(%s, %s): %s, %d, not %s, %d", show(s), show(rec), show(out), err, show(want), wantErr)
	}
	return wantErr
}

// The chapter's examples

func TestExamplesOfApply(t *testing.T) {
	wantDone(t, add(whole(3, 7)), record(words(1, "a")), words(1, "a"), whole(3, 7))
	wantRefused(t, add(whole(3, 7)), words(3, "a"))
	wantDone(t, rename(1), record(words(1, "a")), words(1, "a"))
	wantRefused(t, rename(1), words(2, "a"))

	wantDone(t, split(1, ",", 2, 3), record(words(1, "x,y,z")), words(2, "x"), words(3, "y,z"))
	wantDone(t, split(1, ",", 2, 3), record(words(1, "x")), words(2, "x"), words(3, ""))
	wantRefused(t, split(1, ",", 2, 3), number(1, 5))
	wantRefused(t, split(1, "", 2, 3), words(1, "x,y,z"))

	wantDone(t, join(2, 1, "-", 3), record(words(1, "a"), words(2, "b")), words(3, "b-a"))
	wantRefused(t, join(1, 1, "-", 3), words(1, "a"), words(2, "b"))

	wantDone(t, retype(1, textUint), record(words(1, "42")), number(1, 42))
	wantApply(t, retype(1, textUint), record(words(1, "x")), nil, api.ErrNumber)
	wantRefused(t, retype(1, textUint), number(1, 1))
	wantRefused(t, retype(1, 0), words(1, "42"))
	wantRefused(t, retype(1, 13), words(1, "42"))

	wantDone(t, drop(1), record(words(1, "a"), yes(2)), yes(2))
	wantRefused(t, api.Step{Kind: 0, A: 1}, words(1, "a"))
	wantRefused(t, api.Step{Kind: 7, A: 1}, words(1, "a"))
	wantRefused(t, drop(1), words(2, "a"), words(1, "a"))
}

// wide is a record of all kinds, with texts at both of its ends.
func wide() []api.Field {
	return record(words(1, "a,b,c"), number(2, 1<<64-1), whole(5, -1), words(7, "7"), yes(15), rawBytes(16, "\xff"), words(8000, ""), no(65534), words(65535, "é,ü"))
}

// without is the wide record without some fields and with others.
func without(tags []int, with ...api.Field) []api.Field {
	return plainInstead(wide(), tags, with...)
}

// Where a step can be done

func TestAddIsDone(t *testing.T) {
	for _, tag := range []int{3, 6, 14, 17, 8001, 65533} {
		for k := unsigned; k <= raw; k++ {
			for _, v := range valuesOf(k) {
				f := api.Field{Tag: tag, Val: v}
				wantDone(t, add(f), wide(), without(nil, f)...)
				wantDone(t, add(f), nil, f)
			}
		}
	}
	for _, tag := range []int{1, 2, 65534, 65535} { // at the ends
		wantDone(t, add(words(tag, "n")), without([]int{tag}), without([]int{tag}, words(tag, "n"))...)
		wantDone(t, add(words(tag, "n")), []api.Field{}, words(tag, "n"))
	}
	v := words(3, long(most+1)) // no text is too long for a record here
	wantDone(t, add(v), record(words(1, "a")), words(1, "a"), v)
}

func TestRenameIsDone(t *testing.T) {
	for _, f := range wide() {
		wantDone(t, rename(f.Tag), wide(), wide()...)
		wantDone(t, rename(f.Tag), record(f), f)
	}
}

func TestSplitIsDone(t *testing.T) {
	for _, r := range []struct{ s, sep, head, tail string }{
		{"a,b,c", ",", "a", "b,c"}, {"abc", ",", "abc", ""}, {"", ",", "", ""}, {",", ",", "", ""}, {",,", ",", "", ","}, {"a,", ",", "a", ""}, {",a", ",", "", "a"},
		{"aaa", "aa", "", "a"}, {"a--b-c", "--", "a", "b-c"}, {"abab", "ba", "a", "b"}, {"a", "ab", "a", ""}, {"ab", "ab", "", ""}, {"aab", "ab", "a", ""},
		{"été", "é", "", "té"}, {"aéb", "é", "a", "b"}, {"a\x00b", "\x00", "a", "b"}, {"a,B,b", "b", "a,B,", ""}, {"a, b", ", ", "a", "b"}, {"ẽ€x", "€", "ẽ", "x"},
	} {
		for _, at := range []int{1, 7, 8000, 65535} {
			for _, to := range [][2]int{{3, 4}, {4, 3}, {3, 65533}, {9000, 6}, {8, 6}, {6, 8}} {
				rec := without([]int{at}, words(at, r.s))
				wantDone(t, split(at, r.sep, to[0], to[1]), rec, without([]int{at}, words(to[0], r.head), words(to[1], r.tail))...)
				wantDone(t, split(at, r.sep, to[0], to[1]), record(words(at, r.s)), plainInstead(nil, nil, words(to[0], r.head), words(to[1], r.tail))...)
			}
		}
	}
	wantDone(t, split(3, ",", 65535, 1), record(words(3, "a,b"), yes(4)), words(1, "b"), yes(4), words(65535, "a"))
	sep := long(100000)
	wantDone(t, split(1, sep, 2, 3), record(words(1, "x"+sep+"y")), words(2, "x"), words(3, "y"))
}

func TestJoinIsDone(t *testing.T) {
	for _, sep := range []string{"", "-", ", ", "é", "\x00", long(5000)} {
		for _, to := range []int{3, 6, 9, 65533} {
			wantDone(t, join(1, 7, sep, to), wide(), without([]int{1, 7}, words(to, "a,b,c"+sep+"7"))...)
			wantDone(t, join(7, 1, sep, to), wide(), without([]int{1, 7}, words(to, "7"+sep+"a,b,c"))...)
			wantDone(t, join(65535, 8000, sep, to), wide(), without([]int{8000, 65535}, words(to, "é,ü"+sep))...)
			wantDone(t, join(8000, 1, sep, to), wide(), without([]int{1, 8000}, words(to, sep+"a,b,c"))...)
		}
	}
	wantDone(t, join(3, 2, "", 1), record(words(2, ""), words(3, "")), words(1, ""))
	wantDone(t, join(2, 3, "-", 65535), record(words(2, "a"), words(3, "b")), words(65535, "a-b"))
}

func TestRetypeIsDone(t *testing.T) {
	for _, r := range []struct {
		conv int
		from api.Field
		to   api.Field
	}{
		{1, number(6, 7), whole(6, 7)}, {1, number(6, 1<<63-1), whole(6, math.MaxInt64)},
		{2, whole(6, 7), number(6, 7)}, {2, whole(6, math.MaxInt64), number(6, 1<<63-1)},
		{3, number(6, 1<<64-1), words(6, "18446744073709551615")},
		{4, whole(6, -7), words(6, "-7")}, {4, whole(6, math.MinInt64), words(6, "-9223372036854775808")},
		{5, words(6, "007"), number(6, 7)}, {6, words(6, "-7"), whole(6, -7)},
		{7, yes(6), words(6, "true")}, {7, no(6), words(6, "false")}, {8, words(6, "true"), yes(6)}, {8, words(6, "false"), no(6)},
		{9, yes(6), number(6, 1)}, {10, number(6, 1), yes(6)}, {10, number(6, 0), no(6)},
		{11, words(6, "é"), rawBytes(6, "é")}, {12, rawBytes(6, "\xc3\xa9"), words(6, "é")},
	} {
		wantDone(t, retype(6, r.conv), record(r.from), r.to)
		wantDone(t, retype(6, r.conv), without(nil, r.from), without(nil, r.to)...)
		for _, tag := range []int{1, 65535} {
			from, to := r.from, r.to
			from.Tag, to.Tag = tag, tag
			wantDone(t, retype(tag, r.conv), without([]int{tag}, from), without([]int{tag}, to)...)
		}
	}
}

func TestDropIsDone(t *testing.T) {
	for _, f := range wide() {
		wantDone(t, drop(f.Tag), wide(), without([]int{f.Tag})...)
		wantDone(t, drop(f.Tag), record(f))
	}
}

// What a retype can answer

func TestErrorsOfRetype(t *testing.T) {
	for _, r := range []struct {
		conv int
		f    api.Field
		want api.Errno
	}{
		{1, number(6, 1<<63), api.ErrRange}, {2, whole(6, -1), api.ErrRange}, {10, number(6, 2), api.ErrRange},
		{5, words(6, "18446744073709551616"), api.ErrRange}, {5, words(6, ""), api.ErrNumber}, {5, words(6, "-1"), api.ErrNumber}, {5, words(6, "99999999999999999999x"), api.ErrNumber},
		{6, words(6, "9223372036854775808"), api.ErrRange}, {6, words(6, "-9223372036854775809"), api.ErrRange}, {6, words(6, "-"), api.ErrNumber}, {6, words(6, "x"), api.ErrNumber},
		{8, words(6, "True"), api.ErrBool}, {8, words(6, ""), api.ErrBool}, {12, rawBytes(6, "\xff"), api.ErrUtf}, {12, rawBytes(6, "a\xc3"), api.ErrUtf},
	} {
		wantApply(t, retype(6, r.conv), record(r.f), nil, r.want)
		wantApply(t, retype(6, r.conv), without(nil, r.f), nil, r.want)
	}
}

// TestRetypeOfAllKinds: each conversion, and numbers that are none, over values of each kind.
func TestRetypeOfAllKinds(t *testing.T) {
	met := map[api.Errno]int{}
	for k := unsigned; k <= raw; k++ {
		for _, v := range valuesOf(k) {
			f := api.Field{Tag: 6, Val: v}
			for conv := -1; conv <= 14; conv++ {
				met[wantAsModel(t, retype(6, conv), record(f))]++
				wantAsModel(t, retype(6, conv), without(nil, f))
			}
			for _, conv := range far() {
				wantRefused(t, retype(6, conv), f)
			}
		}
	}
	for _, err := range []api.Errno{api.OK, api.ErrTyped, api.ErrRange, api.ErrNumber, api.ErrUtf, api.ErrBool} {
		if met[err] == 0 {
			t.Errorf("%d was never met", err)
		}
	}
	if len(met) != 6 {
		t.Errorf("more was met: %v", met)
	}
}

func TestConversionsAreConvs(t *testing.T) {
	for _, c := range conversions() {
		if conv.Between(c.from, c.to) != c.number {
			t.Errorf("the model's conversion %v", c)
		}
	}
}

// What a join makes is too long

func TestJoinOfTheLongest(t *testing.T) {
	for _, r := range []struct{ first, sep, second int }{
		{most, 0, 0}, {0, 0, most}, {0, most, 0}, {most - 2, 1, 1}, {8000000, 777215, 8000000}, {1, most - 2, 1}, {1, 1, most - 2},
	} {
		a, sep, b := long(r.first), strings.Repeat("-", r.sep), strings.Repeat("b", r.second)
		rec := record(words(1, a), words(2, b), yes(4))
		wantApply(t, join(1, 2, sep, 3), rec, record(words(3, a+sep+b), yes(4)), api.OK)
		wantApply(t, join(1, 2, sep+"-", 3), rec, nil, api.ErrLong)
		wantApply(t, join(1, 2, sep, 3), record(words(1, a+"a"), words(2, b)), nil, api.ErrLong)
		wantApply(t, join(1, 2, sep, 3), record(words(1, a), words(2, b+"b")), nil, api.ErrLong)
		wantRefused(t, join(1, 2, sep+"--", 4), rec...) // ahead of ErrLong
	}
	half := strings.Repeat("é", most/2) // bytes count, not characters
	wantApply(t, join(1, 2, "é", 3), record(words(1, half), words(2, "")), nil, api.ErrLong)
	wantApply(t, join(1, 2, "", 3), record(words(1, half), words(2, "é")), nil, api.ErrLong)
	wantApply(t, join(1, 2, "", 3), record(words(1, half), words(2, "a")), record(words(3, half+"a")), api.OK)
}

// TestJoinThatCannotBeDoneThoughItIsLong: what can't be done is told ahead of what is too long.
func TestJoinThatCannotBeDoneThoughItIsLong(t *testing.T) {
	a, b := words(1, long(most)), words(2, "b")
	wantApply(t, join(1, 2, "-", 3), record(a, b), nil, api.ErrLong)
	wantRefused(t, join(1, 1, "-", 3), a, b)
	wantRefused(t, join(1, 2, "\xff", 3), a, b)
	wantRefused(t, join(1, 2, "-", 2), a, b)
	wantRefused(t, join(1, 2, "-", 0), a, b)
	wantRefused(t, join(1, 2, "-", 65536), a, b)
	wantRefused(t, join(1, 2, "-", 3), a, b, yes(3))
	wantRefused(t, join(1, 4, "-", 3), a, b)
	wantRefused(t, join(1, 2, "-", 3), a, rawBytes(2, "b"))
	wantRefused(t, join(1, 2, "-", 3), b, a)
}

// TestLongRecords: how many bytes a record has plays no part else.
func TestLongRecords(t *testing.T) {
	x, y := words(1, long(most)), words(2, long(most)+",y")
	rec := record(x, y, words(3, "5"))
	wantDone(t, rename(1), rec, rec...)
	wantDone(t, add(yes(4)), rec, x, y, words(3, "5"), yes(4))
	wantDone(t, drop(3), rec, x, y)
	wantDone(t, drop(1), rec, y, words(3, "5"))
	wantDone(t, split(2, ",", 4, 5), rec, x, words(3, "5"), words(4, long(most)), words(5, "y"))
	wantDone(t, split(2, ";", 4, 5), rec, x, words(3, "5"), words(4, long(most)+",y"), words(5, ""))
	wantDone(t, retype(3, textUint), rec, x, y, number(3, 5))
	wantDone(t, retype(2, textBytes), rec, x, rawBytes(2, y.Val.S), words(3, "5"))
	wantDone(t, retype(2, bytesText), record(rawBytes(2, y.Val.S)), y)
	wantApply(t, retype(2, textUint), rec, nil, api.ErrNumber)
	wantApply(t, retype(1, textBool), rec, nil, api.ErrBool)
	wantApply(t, join(1, 2, "", 4), rec, nil, api.ErrLong)
	wantApply(t, join(2, 3, "", 4), rec, nil, api.ErrLong)
	wantRefused(t, add(yes(2)), rec...)
	wantRefused(t, drop(1), append(rec, yes(3))...)
}

// What can't be done, each condition by itself

// possible are steps over the wide record that can be done, one of each kind.
func possible() []api.Step {
	return []api.Step{add(whole(6, 7)), rename(5), split(1, ",", 6, 17), join(7, 65535, "-", 6), retype(7, textUint), drop(15)}
}

func TestPossibleStepsAreDone(t *testing.T) {
	for i, s := range possible() {
		if s.Kind != i+1 || wantAsModel(t, s, wide()) != api.OK {
			t.Errorf("%s can't be done", show(s))
		}
	}
}

// TestTagsThatAreNone: each tag that a step names, missing and outside of its bounds.
func TestTagsThatAreNone(t *testing.T) {
	for _, s := range possible() {
		for _, tag := range append(noTags(), 3, 4, 6, 65533) {
			other := s
			other.A = tag
			if s.Kind != api.StepAdd || tag < 1 || tag > 65535 {
				wantRefused(t, other, wide()...)
			}
			other = s
			other.B = tag
			if s.Kind == api.StepJoin || s.Kind == api.StepSplit && (tag < 1 || tag > 65535) {
				wantRefused(t, other, wide()...)
			}
			other = s
			other.C = tag
			if (s.Kind == api.StepJoin || s.Kind == api.StepSplit) && (tag < 1 || tag > 65535) {
				wantRefused(t, other, wide()...)
			}
		}
	}
}

// TestTagsThatAreTaken: no new field has a tag that one has already, also one that goes.
func TestTagsThatAreTaken(t *testing.T) {
	for _, f := range wide() {
		wantRefused(t, add(whole(f.Tag, 7)), wide()...)
		wantRefused(t, add(f), wide()...)
		wantRefused(t, split(1, ",", f.Tag, 6), wide()...)
		wantRefused(t, split(1, ",", 6, f.Tag), wide()...)
		wantRefused(t, split(1, ",", f.Tag, f.Tag), wide()...)
		wantRefused(t, join(7, 65535, "-", f.Tag), wide()...)
	}
	wantRefused(t, split(1, ",", 1, 2), words(1, "a,b"))
	wantRefused(t, split(1, ",", 2, 1), words(1, "a,b"))
	wantRefused(t, join(1, 2, ",", 1), words(1, "a"), words(2, "b"))
	wantRefused(t, join(1, 2, ",", 2), words(1, "a"), words(2, "b"))
}

// TestTagsAlike: two tags of a step that are the same.
func TestTagsAlike(t *testing.T) {
	for _, tag := range []int{3, 6, 17, 65533} {
		wantRefused(t, split(1, ",", tag, tag), wide()...)
	}
	for _, tag := range []int{1, 7, 8000, 65535} {
		wantRefused(t, join(tag, tag, "-", 6), wide()...)
		wantRefused(t, join(tag, tag, "", 6), wide()...)
	}
	wantRefused(t, split(1, ",", 2, 2), words(1, "a,b"))
}

// TestOtherKinds: fields that aren't texts where texts are taken.
func TestOtherKinds(t *testing.T) {
	for _, f := range wide() {
		if f.Val.Kind == text {
			continue
		}
		wantRefused(t, split(f.Tag, ",", 6, 17), wide()...)
		wantRefused(t, join(f.Tag, 7, "-", 6), wide()...)
		wantRefused(t, join(7, f.Tag, "-", 6), wide()...)
	}
	wantRefused(t, split(1, ",", 2, 3), rawBytes(1, "a,b"))
	wantRefused(t, join(1, 2, "", 3), rawBytes(1, "a"), words(2, "b"))
	wantRefused(t, join(1, 2, "", 3), words(1, "a"), rawBytes(2, "b"))
}

func TestSeparatorsThatCannotBe(t *testing.T) {
	for _, sep := range noText() {
		wantRefused(t, split(1, sep, 6, 17), wide()...)
		wantRefused(t, join(7, 65535, sep, 6), wide()...)
		wantRefused(t, join(8000, 7, sep, 6), wide()...)
	}
	wantRefused(t, split(1, "", 6, 17), wide()...)
	wantRefused(t, split(8000, "", 6, 17), wide()...)
}

// TestSeparatorsThatWouldFindAPiece: a piece of a character is no UTF-8, though its bytes stand in the text.
func TestSeparatorsThatWouldFindAPiece(t *testing.T) {
	wantRefused(t, split(1, "\xc3", 2, 3), words(1, "é"))
	wantRefused(t, split(1, "\xa9", 2, 3), words(1, "é"))
	wantRefused(t, join(1, 2, "\xa9", 3), words(1, "a"), words(2, "b"))
}

func TestValuesThatAreNot(t *testing.T) {
	for _, v := range noValues() {
		wantRefused(t, api.Step{Kind: api.StepAdd, A: 6, Val: v}, wide()...)
		wantRefused(t, api.Step{Kind: api.StepAdd, A: 1, Val: v})
	}
}

func TestConversionsOfOtherKinds(t *testing.T) {
	for _, c := range conversions() {
		for k := unsigned; k <= raw; k++ {
			if k != c.from {
				wantRefused(t, retype(6, c.number), api.Field{Tag: 6, Val: valuesOf(k)[0]})
				wantRefused(t, retype(6, c.number), without(nil, api.Field{Tag: 6, Val: valuesOf(k)[1]})...)
			}
		}
		wantRefused(t, retype(3, c.number), wide()...) // no such field
		wantRefused(t, retype(3, c.number))
	}
	for _, conv := range append(far(), 0, 13, 14, 17, 22, 256+5) {
		wantRefused(t, retype(7, conv), wide()...)
		wantRefused(t, retype(3, conv), wide()...) // neither is there
		wantRefused(t, retype(0, conv), wide()...)
	}
}

func TestKindsOfStepsThatAreNone(t *testing.T) {
	for _, k := range append(far(), 0, 7, 8, 9, 256+1, 262) {
		for _, s := range possible() {
			s.Kind = k
			wantRefused(t, s, wide()...)
		}
		wantRefused(t, api.Step{Kind: k})
		wantRefused(t, api.Step{Kind: k, A: 1, B: 2, C: 3, Sep: ",", Conv: 5, Val: api.Value{Kind: text}}, words(1, "7"))
	}
}

// TestFieldsThatAreNotNamed: what a step's Kind doesn't name plays no part.
func TestFieldsThatAreNotNamed(t *testing.T) {
	named := [][]bool{ // B, C, Sep, Conv, Val
		{false, false, false, false, true},
		{false, false, false, false, false},
		{true, true, true, false, false},
		{true, true, true, false, false},
		{false, false, false, true, false},
		{false, false, false, false, false},
	}
	r := lcg(14)
	values := append(noValues(), whole(1, 7).Val, words(1, "x").Val, words(1, long(most+1)).Val)
	for i, s := range possible() {
		want, _ := plainApply(s, wide())
		wantDone(t, s, wide(), want...)
		for range 2000 {
			other := s
			if !named[i][0] {
				other.B = oneOf(&r, append(far(), 0, 1, 2, 3, 5, 6, 7, 15, 65535)...)
			}
			if !named[i][1] {
				other.C = oneOf(&r, append(far(), 0, 1, 2, 3, 5, 6, 7, 15, 65535)...)
			}
			if !named[i][2] {
				other.Sep = oneOf(&r, append(noText(), "", ",", "x", long(10000))...)
			}
			if !named[i][3] {
				other.Conv = oneOf(&r, append(far(), 0, 1, 5, 12, 13)...)
			}
			if !named[i][4] {
				other.Val = oneOf(&r, values...)
			}
			if out, err := step.Apply(other, wide()); err != api.OK || !slices.Equal(out, want) {
				t.Errorf("Apply(%s): %s, %d, not %s", show(other), show(out), err, show(want))
			}
		}
	}
}

// TestNamedFieldsPlayTheirPart: with a step's own fields as they are in no step it can't be done.
func TestNamedFieldsPlayTheirPart(t *testing.T) {
	for _, s := range possible() {
		wantRefused(t, api.Step{Kind: s.Kind}, wide()...)
	}
}

// Records that are none

func TestNoRecords(t *testing.T) {
	fits := append(possible(), add(words(3, "x")), rename(1), drop(65535), drop(7), split(65535, ",", 3, 4))
	wantNone := func(rec []api.Field) {
		t.Helper()
		for _, s := range fits {
			wantRefused(t, s, rec...)
		}
	}
	for i := range wide() {
		for _, tag := range noTags() {
			rec := wide()
			rec[i].Tag = tag
			wantNone(rec)
		}
		for _, v := range noValues() {
			rec := wide()
			rec[i].Val = v
			wantNone(rec)
		}
		for j := range i { // two fields in each other's place, two with one tag
			rec := wide()
			rec[i], rec[j] = rec[j], rec[i]
			wantNone(rec)
			rec = wide()
			rec[i].Tag = rec[j].Tag
			wantNone(rec)
			rec = wide()
			rec[j].Tag = rec[i].Tag
			wantNone(rec)
		}
		wantNone(slices.Insert(wide(), i, wide()[i])) // twice
	}
	turned := wide()
	slices.Reverse(turned)
	wantNone(turned)
}

// TestNoRecordIsToldAheadOfAll: of what isn't a record it is told, also where the step would answer another error.
func TestNoRecordIsToldAheadOfAll(t *testing.T) {
	bad := []api.Field{{Tag: 9, Val: api.Value{}}, number(1, 5), words(65536, "x"), words(9, "\xff"), {Tag: 9, Val: api.Value{Kind: unsigned, S: "x"}}}
	for _, f := range bad {
		wantRefused(t, retype(2, textUint), words(2, "x"), f)
		wantRefused(t, join(2, 3, "-", 4), words(2, long(most)), words(3, ""), f)
		wantRefused(t, drop(2), words(2, "x"), f)
		wantRefused(t, drop(f.Tag), words(2, "x"), f) // also the bad one itself
		wantRefused(t, rename(f.Tag), words(2, "x"), f)
	}
	wantApply(t, retype(2, textUint), record(words(2, "x"), yes(9)), nil, api.ErrNumber)
	wantApply(t, join(2, 3, "-", 4), record(words(2, long(most)), words(3, ""), yes(9)), nil, api.ErrLong)
}

func TestTheEmptyRecord(t *testing.T) {
	for _, rec := range [][]api.Field{nil, {}} {
		for _, s := range possible()[1:] {
			wantApply(t, s, rec, nil, api.ErrTyped)
		}
		for k := unsigned; k <= raw; k++ {
			for _, v := range valuesOf(k) {
				wantDone(t, api.Step{Kind: api.StepAdd, A: 65535, Val: v}, rec, api.Field{Tag: 65535, Val: v})
			}
		}
		wantApply(t, api.Step{}, rec, nil, api.ErrTyped)
	}
}

// TestAllTags: a record that has a field of every tag.
func TestAllTags(t *testing.T) {
	var rec []api.Field
	for tag := 1; tag <= 65535; tag++ {
		rec = append(rec, words(tag, "7"))
	}
	look := func(s api.Step, want []api.Field, wantErr api.Errno) {
		t.Helper()
		if out, err := step.Apply(s, rec); !slices.Equal(out, want) || err != wantErr {
			t.Errorf("Apply(%s): %s, %d", show(s), show(out), err)
		}
	}
	for _, tag := range []int{1, 2, 30000, 65534, 65535} {
		look(drop(tag), slices.Delete(slices.Clone(rec), tag-1, tag), api.OK)
		look(rename(tag), rec, api.OK)
		other := slices.Clone(rec)
		other[tag-1] = number(tag, 7)
		look(retype(tag, textUint), other, api.OK)
		look(add(words(tag, "x")), nil, api.ErrTyped)
		look(split(tag, ",", tag, tag+1), nil, api.ErrTyped)
		look(join(tag, 3, ",", tag), nil, api.ErrTyped)
	}
}

// All short steps over some records

func shortRecords() [][]api.Field {
	return [][]api.Field{
		nil,
		{words(1, "a,b")},
		{words(1, "7"), words(2, "")},
		{words(1, "true"), number(2, 1)},
		{number(1, 1<<63), words(2, ",")},
		{rawBytes(1, "\xff"), yes(2), words(3, "x")},
		{words(2, "a"), words(3, "b"), whole(4, -1)},
		{words(2, "a"), words(1, "b")},
		{words(1, "a"), words(1, "b")},
		{words(1, "a"), words(2, "\xff")},
		{words(0, "a"), words(2, "b")},
		{words(1, "a"), words(65536, "b")},
		{words(65534, "a"), words(65535, "b")},
	}
}

func TestAllShortSteps(t *testing.T) {
	tags := []int{-1, 0, 1, 2, 3, 4, 65535, 65536}
	for _, rec := range shortRecords() {
		for _, a := range tags {
			for k := -1; k <= 8; k++ {
				for _, v := range []api.Value{{}, {Kind: text, S: "x"}, {Kind: text, S: "\xff"}, {Kind: unsigned, N: 7}, {Kind: truth, N: 2}} {
					wantAsModel(t, api.Step{Kind: k, A: a, Val: v}, rec)
				}
				for conv := -1; conv <= 13; conv++ {
					wantAsModel(t, api.Step{Kind: k, A: a, Conv: conv}, rec)
				}
			}
			for _, b := range tags {
				for _, c := range tags {
					for _, sep := range []string{"", ",", "\xff"} {
						wantAsModel(t, split(a, sep, b, c), rec)
						wantAsModel(t, join(a, b, sep, c), rec)
					}
				}
			}
		}
	}
}
