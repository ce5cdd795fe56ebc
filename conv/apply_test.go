package conv_test

import (
	"cmp"
	"regexp"
	"slices"
	"strings"
	"testing"
	"unsafe"

	"stratum/api"
	"stratum/conv"
)

func u(n uint64) api.Value { return api.Value{Kind: unsigned, N: n} }
func i(n int64) api.Value  { return api.Value{Kind: signed, N: uint64(n)} }
func b(n uint64) api.Value { return api.Value{Kind: truth, N: n} }
func s(x string) api.Value { return api.Value{Kind: text, S: x} }
func y(x string) api.Value { return api.Value{Kind: raw, S: x} }

// wantApply looks what Apply answers; beside an error the value is to be the zero one.
func wantApply(t *testing.T, number int, v api.Value, want api.Value, wantErr api.Errno) {
	t.Helper()
	if got, err := conv.Apply(number, v); got != want || err != wantErr {
		t.Errorf("Apply(%d, %s): %s, %d, not %s, %d", number, show(v), show(got), err, show(want), wantErr)
	}
}

// P6.2

func TestApplyByHand(t *testing.T) {
	for _, c := range []struct {
		number int
		v      api.Value
		want   api.Value
		err    api.Errno
	}{
		{1, u(0), i(0), 0},
		{1, u(7), i(7), 0},
		{1, u(1<<63 - 1), i(1<<63 - 1), 0},
		{1, u(1 << 63), api.Value{}, api.ErrRange},
		{1, u(1<<64 - 1), api.Value{}, api.ErrRange},
		{2, i(0), u(0), 0},
		{2, i(1<<63 - 1), u(1<<63 - 1), 0},
		{2, i(-1), api.Value{}, api.ErrRange},
		{2, i(-1 << 63), api.Value{}, api.ErrRange},
		{3, u(0), s("0"), 0},
		{3, u(9), s("9"), 0},
		{3, u(10), s("10"), 0},
		{3, u(1 << 63), s("9223372036854775808"), 0},
		{3, u(1<<64 - 1), s("18446744073709551615"), 0},
		{4, i(0), s("0"), 0},
		{4, i(-1), s("-1"), 0},
		{4, i(-10), s("-10"), 0},
		{4, i(1<<63 - 1), s("9223372036854775807"), 0},
		{4, i(-1 << 63), s("-9223372036854775808"), 0},
		{7, b(0), s("false"), 0},
		{7, b(1), s("true"), 0},
		{8, s("false"), b(0), 0},
		{8, s("true"), b(1), 0},
		{8, s("True"), api.Value{}, api.ErrBool},
		{8, s(""), api.Value{}, api.ErrBool},
		{8, s("true "), api.Value{}, api.ErrBool},
		{8, s("1"), api.Value{}, api.ErrBool},
		{9, b(0), u(0), 0},
		{9, b(1), u(1), 0},
		{10, u(0), b(0), 0},
		{10, u(1), b(1), 0},
		{10, u(2), api.Value{}, api.ErrRange},
		{10, u(256), api.Value{}, api.ErrRange},
		{10, u(1 << 32), api.Value{}, api.ErrRange},
		{10, u(1 << 63), api.Value{}, api.ErrRange},
		{10, u(1<<64 - 1), api.Value{}, api.ErrRange},
		{11, s(""), y(""), 0},
		{11, s("\xc3\xa9"), y("\xc3\xa9"), 0},
		{12, y(""), s(""), 0},
		{12, y("\xc3\xa9"), s("\xc3\xa9"), 0},
		{12, y("\xff"), api.Value{}, api.ErrUtf},
		{12, y("a\xc3"), api.Value{}, api.ErrUtf},
		{12, y("\xed\xa0\x80"), api.Value{}, api.ErrUtf},
	} {
		wantApply(t, c.number, c.v, c.want, c.err)
	}
}

func TestTextsAsNumbersByHand(t *testing.T) {
	const none = 0 // beside an error there is no number
	for _, c := range []struct {
		text string
		u    uint64
		uErr api.Errno
		i    int64
		iErr api.Errno
	}{
		{"0", 0, 0, 0, 0},
		{"007", 7, 0, 7, 0},
		{"42", 42, 0, 42, 0},
		{"-7", none, api.ErrNumber, -7, 0},
		{"-007", none, api.ErrNumber, -7, 0},
		{"-0", none, api.ErrNumber, 0, 0},
		{"-000", none, api.ErrNumber, 0, 0},
		{"000000000000000000000000", 0, 0, 0, 0},
		{"9223372036854775807", 1<<63 - 1, 0, 1<<63 - 1, 0},
		{"9223372036854775808", 1 << 63, 0, none, api.ErrRange},
		{"0009223372036854775808", 1 << 63, 0, none, api.ErrRange},
		{"-9223372036854775807", none, api.ErrNumber, -1<<63 + 1, 0},
		{"-9223372036854775808", none, api.ErrNumber, -1 << 63, 0},
		{"-0009223372036854775808", none, api.ErrNumber, -1 << 63, 0},
		{"-9223372036854775809", none, api.ErrNumber, none, api.ErrRange},
		{"18446744073709551615", 1<<64 - 1, 0, none, api.ErrRange},
		{"00018446744073709551615", 1<<64 - 1, 0, none, api.ErrRange},
		{"18446744073709551616", none, api.ErrRange, none, api.ErrRange},
		{"-18446744073709551615", none, api.ErrNumber, none, api.ErrRange},
		{"-18446744073709551616", none, api.ErrNumber, none, api.ErrRange},
		{"-36893488147419103233", none, api.ErrNumber, none, api.ErrRange},
		{"", none, api.ErrNumber, none, api.ErrNumber},
		{"-", none, api.ErrNumber, none, api.ErrNumber},
		{"--1", none, api.ErrNumber, none, api.ErrNumber},
		{"-+1", none, api.ErrNumber, none, api.ErrNumber},
		{"+1", none, api.ErrNumber, none, api.ErrNumber},
		{" 1", none, api.ErrNumber, none, api.ErrNumber},
		{"1 ", none, api.ErrNumber, none, api.ErrNumber},
		{"1.0", none, api.ErrNumber, none, api.ErrNumber},
		{"1-", none, api.ErrNumber, none, api.ErrNumber},
		{"1_000", none, api.ErrNumber, none, api.ErrNumber},
		{"0x10", none, api.ErrNumber, none, api.ErrNumber},
		{"\u0661", none, api.ErrNumber, none, api.ErrNumber},
		{"1\u0661", none, api.ErrNumber, none, api.ErrNumber},
		{"\uff11", none, api.ErrNumber, none, api.ErrNumber},
		{"99999999999999999999x", none, api.ErrNumber, none, api.ErrNumber},
		{"-99999999999999999999x", none, api.ErrNumber, none, api.ErrNumber},
		{"99999999999999999999-", none, api.ErrNumber, none, api.ErrNumber},
	} {
		wantNumber(t, 5, c.text, u(c.u), c.uErr)
		wantNumber(t, 6, c.text, i(c.i), c.iErr)
	}
}

// wantNumber looks what a text becomes; the value plays no part beside an error.
func wantNumber(t *testing.T, number int, x string, want api.Value, err api.Errno) {
	t.Helper()
	if err != api.OK {
		want = api.Value{}
	}
	wantApply(t, number, s(x), want, err)
}

func TestVeryLongTexts(t *testing.T) {
	const n = 1 << 20
	nines, zeros := strings.Repeat("9", n), strings.Repeat("0", n)
	for _, c := range []struct {
		text string
		u    api.Errno
		i    api.Errno
		n    uint64
	}{
		{nines, api.ErrRange, api.ErrRange, 0},
		{"-" + nines, api.ErrNumber, api.ErrRange, 0},
		{nines + "x", api.ErrNumber, api.ErrNumber, 0},
		{"-" + nines + "x", api.ErrNumber, api.ErrNumber, 0},
		{"x" + nines, api.ErrNumber, api.ErrNumber, 0},
		{"--" + nines, api.ErrNumber, api.ErrNumber, 0},
		{nines + "\u0661", api.ErrNumber, api.ErrNumber, 0},
		{zeros, api.OK, api.OK, 0},
		{zeros + "7", api.OK, api.OK, 7},
		{zeros + "9223372036854775807", api.OK, api.OK, 1<<63 - 1},
		{zeros + "9223372036854775808", api.OK, api.ErrRange, 1 << 63},
		{zeros + "18446744073709551615", api.OK, api.ErrRange, 1<<64 - 1},
		{zeros + "18446744073709551616", api.ErrRange, api.ErrRange, 0},
		{zeros + "x", api.ErrNumber, api.ErrNumber, 0},
		{zeros + "-", api.ErrNumber, api.ErrNumber, 0},
		{"1" + zeros, api.ErrRange, api.ErrRange, 0},
		{"18446744073709551616" + zeros, api.ErrRange, api.ErrRange, 0},
	} {
		wantNumber(t, 5, c.text, u(c.n), c.u)
		wantNumber(t, 6, c.text, i(int64(c.n)), c.i)
		wantApply(t, 8, s(c.text), api.Value{}, api.ErrBool)
		wantApply(t, 11, s(c.text), y(c.text), api.OK)
		wantApply(t, 12, y(c.text), s(c.text), api.OK)
		wantApply(t, 12, y(c.text+"\xff"), api.Value{}, api.ErrUtf)
	}
	wantApply(t, 6, s("-"+zeros), i(0), api.OK)
	wantApply(t, 6, s("-"+zeros+"7"), i(-7), api.OK)
	wantApply(t, 6, s("-"+zeros+"9223372036854775808"), i(-1<<63), api.OK)
	wantApply(t, 6, s("-"+zeros+"9223372036854775809"), api.Value{}, api.ErrRange)
}

func TestErrArgByHand(t *testing.T) {
	for _, c := range []struct {
		number int
		v      api.Value
	}{
		{1, i(7)}, {2, u(7)}, {3, i(7)}, {4, u(7)}, {5, y("7")}, {6, y("7")}, {7, u(1)}, {8, y("true")}, {9, u(1)}, {10, b(1)}, {11, y("a")}, {12, s("a")},
		{0, u(7)}, {13, u(7)}, {-1, u(7)}, {0, api.Value{}}, {13, api.Value{}}, {1, api.Value{}},
		{11, api.Value{Kind: text, N: 1}},
		// What would fail by itself, too, if it were asked.
		{1, api.Value{Kind: unsigned, N: 1 << 63, S: "x"}},
		{2, api.Value{Kind: signed, N: 1<<64 - 1, S: "x"}},
		{5, api.Value{Kind: text, N: 1, S: "x"}},
		{5, api.Value{Kind: text, S: "x\xff"}},
		{5, api.Value{Kind: text, N: 1, S: "18446744073709551616"}},
		{6, api.Value{Kind: text, N: 1, S: "-"}},
		{6, api.Value{Kind: text, S: "99999999999999999999\xff"}},
		{8, api.Value{Kind: text, N: 1, S: "True"}},
		{8, api.Value{Kind: text, S: "true\xff"}},
		{10, api.Value{Kind: unsigned, N: 2, S: "x"}},
		{12, api.Value{Kind: raw, N: 1, S: "\xff"}},
		{12, api.Value{Kind: text, S: "\xff"}},
		{1, api.Value{Kind: truth, N: 1 << 63}},
		{10, api.Value{Kind: signed, N: 2}},
		{7, b(2)}, {9, b(2)},
	} {
		wantApply(t, c.number, c.v, api.Value{}, api.ErrArg)
	}
}

// wantPlain looks whether Apply answers as the chapter tells it, and whether what it makes is valid.
func wantPlain(t *testing.T, number int, v api.Value) {
	t.Helper()
	want, wantErr := plainApply(number, v)
	got, err := conv.Apply(number, v)
	if got != want || err != wantErr {
		t.Errorf("Apply(%d, %s): %s, %d, not %s, %d", number, show(v), show(got), err, show(want), wantErr)
	}
	if err == api.OK && (!plainValid(got) || got.Kind != conv.To(number)) {
		t.Errorf("Apply(%d, %s): %s is no value of the kind %d", number, show(v), show(got), conv.To(number))
	}
}

func TestApplyOfAllNumbersAndValues(t *testing.T) {
	numbers := []int{1, 2, 3, 4, 5, 6, 7, 8, 9, 10, 11, 12}
	for _, v := range slices.Concat(valids(), invalids()) {
		for _, n := range numbers {
			wantPlain(t, n, v)
		}
	}
	few := []api.Value{{}, u(0), u(7), i(7), i(-7), b(1), b(2), s("7"), s("x"), s("true"), s("\xff"), y("7"), y("\xff")}
	for _, n := range noNumbers() {
		for _, v := range few {
			wantPlain(t, n, v)
		}
	}
}

func TestTextsOfTwoBytes(t *testing.T) {
	for c := range 256 {
		for d := range 256 {
			two := string([]byte{byte(c), byte(d)})
			for _, x := range []string{two[:1], two} {
				wantPlain(t, 5, s(x))
				wantPlain(t, 6, s(x))
				wantPlain(t, 12, y(x))
			}
		}
	}
}

func TestOneOtherByteInATextThatIsANumber(t *testing.T) {
	for _, x := range []string{"7", "-7", "1234567", "18446744073709551615", "-9223372036854775808"} {
		for at := range len(x) {
			for c := range 256 {
				put := x[:at] + string([]byte{byte(c)})
				for _, turned := range []string{put + x[at+1:], put + x[at:], x + put} {
					wantPlain(t, 5, s(turned))
					wantPlain(t, 6, s(turned))
				}
			}
		}
	}
}

func TestOneOtherByteInATruthValue(t *testing.T) {
	for n, x := range []string{"false", "true"} {
		for at := range len(x) {
			for c := range 128 {
				turned := x[:at] + string([]byte{byte(c)}) + x[at+1:]
				if turned == x {
					wantApply(t, 8, s(turned), b(uint64(n)), api.OK)
				} else {
					wantApply(t, 8, s(turned), api.Value{}, api.ErrBool)
				}
			}
		}
	}
}

func TestEachWrittenNumberIsTheShortest(t *testing.T) {
	for _, n := range numbers() {
		for number, v := range map[int]api.Value{3: u(n), 4: i(int64(n))} {
			got, err := conv.Apply(number, v)
			digits := strings.TrimPrefix(got.S, "-")
			if err != api.OK || digits == "" || strings.Trim(digits, "0123456789") != "" || len(digits) > 1 && digits[0] == '0' || got.S == "-0" {
				t.Errorf("Apply(%d, %s): %s, %d", number, show(v), show(got), err)
			}
		}
	}
}

// What is handed in stays, and an answer shares no memory with it.
func TestWhatIsAnsweredIsNewMemory(t *testing.T) {
	for _, x := range []string{"a", "é", strings.Repeat("é", 5000)} {
		for number, v := range map[int]api.Value{11: s(strings.Clone(x)), 12: y(strings.Clone(x))} {
			got, err := conv.Apply(number, v)
			if err != api.OK || got.S != x || v.S != x {
				t.Errorf("Apply(%d, %s): %s, %d", number, show(v), show(got), err)
			}
			if unsafe.StringData(got.S) == unsafe.StringData(v.S) {
				t.Errorf("Apply(%d, %s) answers the memory that was handed in", number, show(v))
			}
		}
	}
}

func TestTheSameAnswerAtEveryMoment(t *testing.T) {
	all := slices.Concat(ofKind(text), ofKind(unsigned), ofKind(signed))
	for range 2 {
		for _, number := range []int{6, 1, 5, 3, 2, 10, 8, 4} {
			for _, v := range all {
				a, errA := conv.Apply(number, v)
				other, errB := conv.Apply(number, v)
				if a != other || errA != errB {
					t.Fatalf("Apply(%d, %s): %s, %d, and then %s, %d", number, show(v), show(a), errA, show(other), errB)
				}
			}
		}
		wantTheStart(t)
	}
}

// P6.3

// wantBack looks whether a value is converted back into itself, if it can be converted; it tells whether it could.
func wantBack(t *testing.T, number int, v api.Value) bool {
	t.Helper()
	made, err := conv.Apply(number, v)
	if err != api.OK {
		return false
	}
	back := conv.Between(conv.To(number), conv.From(number))
	if got, err := conv.Apply(back, made); got != v || err != api.OK {
		t.Errorf("%s is by %d %s, and that by %d %s, %d", show(v), number, show(made), back, show(got), err)
	}
	return true
}

func TestThereAndBack(t *testing.T) {
	r := lcg(63)
	for _, number := range []int{1, 2, 9, 10, 11, 12, 3, 4, 7, 8} {
		there := 0
		for _, v := range ofKind(conv.From(number)) {
			if wantBack(t, number, v) {
				there++
			}
		}
		if there < 2 {
			t.Errorf("%d conversions by %d, too few", there, number)
		}
		for shift := range 64 {
			for range 20 {
				wantBack(t, number, api.Value{Kind: conv.From(number), N: r.next() >> shift})
			}
		}
	}
}

// shortest are the texts that are written of numbers.
var shortest = regexp.MustCompile(`\A(0|-?[1-9][0-9]*)\z`)

// Of texts that are numbers just those come back that are written of one: 007 becomes 7.
func TestTextsThereAndBack(t *testing.T) {
	for number, back := range map[int]int{5: 3, 6: 4} {
		there := 0
		for _, x := range texts() {
			made, err := conv.Apply(number, s(x))
			if err != api.OK {
				continue
			}
			there++
			got, err := conv.Apply(back, made)
			if err != api.OK || (got == s(x)) != shortest.MatchString(x) {
				t.Errorf("%q is by %d %s, and that is %s, %d", x, number, show(made), show(got), err)
			}
		}
		if there < 100 {
			t.Errorf("%d texts that %d takes, too few", there, number)
		}
	}
}

// P6.4

// compare holds two values of one kind against each other, as the numbers that they are.
func compare(a api.Value, b api.Value) int {
	if a.Kind == signed {
		return cmp.Compare(int64(a.N), int64(b.N))
	}
	return cmp.Compare(a.N, b.N)
}

func TestOrderIsKept(t *testing.T) {
	for _, number := range []int{1, 2, 9, 10} {
		all := slices.DeleteFunc(ofKind(conv.From(number)), func(v api.Value) bool {
			_, err := conv.Apply(number, v)
			return err != api.OK
		})
		if len(all) < 2 {
			t.Errorf("%d values that %d takes, too few", len(all), number)
		}
		for _, a := range all {
			for _, b := range all {
				x, _ := conv.Apply(number, a)
				y, _ := conv.Apply(number, b)
				if x.Kind != y.Kind || compare(a, b) < 0 && compare(x, y) > 0 {
					t.Errorf("by %d %s and %s are %s and %s", number, show(a), show(b), show(x), show(y))
				}
			}
		}
	}
}
