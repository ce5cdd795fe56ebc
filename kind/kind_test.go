package kind_test

import (
	"math"
	"slices"
	"strconv"
	"strings"
	"sync"
	"testing"

	"stratum/api"
	"stratum/kind"
)

// table is the row of kinds in the document's table.
func table() []api.Entry {
	return []api.Entry{
		{Family: 1, Number: 1, Name: "uint", Size: 10},
		{Family: 1, Number: 2, Name: "int", Size: 10},
		{Family: 1, Number: 3, Name: "bool", Size: 1},
		{Family: 1, Number: 4, Name: "text", Size: 0},
		{Family: 1, Number: 5, Name: "bytes", Size: 0},
	}
}

// noKinds are numbers that are no kind's.
func noKinds() []int {
	return []int{math.MinInt, math.MinInt + 1, math.MinInt32, -256, -6, -5, -4, -3, -2, -1, 0, 6, 7, 8, 64, 255, 256, 257, math.MaxInt32, 1 << 32, 1<<32 + 1, math.MaxInt - 1, math.MaxInt}
}

// numbers are the ends of what N can be, and of what it is as a number with a sign.
func numbers() []uint64 {
	return []uint64{0, 1, 2, 3, 255, 256, 1<<32 - 1, 1 << 32, 1<<63 - 2, 1<<63 - 1, 1 << 63, 1<<63 + 1, 1<<64 - 2, 1<<64 - 1}
}

// texts are valid UTF-8.
func texts() []string {
	return []string{"", "\x00", "\x00\x00", "0", "a", "ab", "abc", "b", "A", "\x7f", "\u0080", "é", "éa", "\u07ff", "\u0800", "€", "\ud7ff", "\ue000", "\ufffd", "\uffff", "\U00010000", "\U0001f600", "\U0010ffff", strings.Repeat("é", 1000), "true", "uint"}
}

// noTexts are no valid UTF-8.
func noTexts() []string {
	return []string{"\x80", "\xbf", "\xc3", "\xc3A", "\xc0\x80", "\xe2\x82", "\xed\xa0\x80", "\xf0\x9f\x98", "\xf4\x90\x80\x80", "\xf5\x80\x80\x80", "\xff", "\xff\xff", "a\xff", "\xffa", "é\xc3", strings.Repeat("é", 1000) + "\xff"}
}

// show is a value as a text, for what a test tells.
func show(v api.Value) string {
	s := strconv.QuoteToASCII(v.S)
	if len(s) > 40 {
		s = s[:40] + ".."
	}
	return "{" + strconv.Itoa(v.Kind) + " " + strconv.FormatUint(v.N, 10) + " " + s + "}"
}

// wantTheStart looks whether all stands that the start left.
func wantTheStart(t *testing.T) {
	t.Helper()
	if all := kind.Entries(); !slices.Equal(all, table()) {
		t.Errorf("Entries: %v", all)
	}
	for i, f := range []func() int{kind.Uint, kind.Int, kind.Bool, kind.Text, kind.Bytes} {
		if k := f(); k != i+1 {
			t.Errorf("the number of %s: %d", table()[i].Name, k)
		}
	}
	if n := kind.Base(); n != 0 {
		t.Errorf("Base: %d", n)
	}
	if n := kind.Width(); n != 21 {
		t.Errorf("Width: %d", n)
	}
}

// P4.1

func TestTheStart(t *testing.T) {
	wantTheStart(t)
}

// early is asked for while this package starts, ahead of main.
var early = func() []int {
	return []int{kind.Uint(), kind.Int(), kind.Bool(), kind.Text(), kind.Bytes(), kind.Base(), kind.Width(), len(kind.Entries()), kind.Of("bytes")}
}()

func TestTheStartIsDoneAheadOfThoseThatImport(t *testing.T) {
	if !slices.Equal(early, []int{1, 2, 3, 4, 5, 0, 21, 5, 5}) {
		t.Error(early)
	}
}

func TestNumbersAndWidthAreThoseOfTheEntries(t *testing.T) {
	sum := 0
	for i, e := range kind.Entries() {
		sum += e.Size
		if e.Family != api.Kinds || e.Number != i+1 || kind.Of(e.Name) != e.Number || kind.Name(e.Number) != e.Name {
			t.Errorf("entry %d: %v", i, e)
		}
	}
	if kind.Width() != sum {
		t.Errorf("Width: %d, and the sizes are %d", kind.Width(), sum)
	}
}

// spoil writes over all that a list of entries can reach.
func spoil(all []api.Entry) {
	all = all[:cap(all)]
	for i := range all {
		all[i] = api.Entry{Family: 9, Number: -1, Name: "spoiled", Size: 99}
	}
}

func TestEntriesAreNewMemory(t *testing.T) {
	other := kind.Entries()
	for range 3 {
		turned := kind.Entries()
		slices.Reverse(turned)
		wantTheStart(t)
		spoil(turned)
		wantTheStart(t)
		spoil(append(kind.Entries()[:2], api.Entry{Name: "real"}))
		wantTheStart(t)
	}
	if !slices.Equal(other, table()) {
		t.Errorf("two answers share memory: %v", other)
	}
	spoil(other)
	for i, e := range table() {
		if kind.Of(e.Name) != i+1 || kind.Name(i+1) != e.Name {
			t.Errorf("%s is another one since an answer was written over", e.Name)
		}
	}
	if kind.Of("spoiled") != 0 || kind.Name(-1) != "" || kind.Valid(api.Value{Kind: -1}) {
		t.Error("what was written into an answer is a kind")
	}
}

func TestNothingThatIsCalledChangesTheStart(t *testing.T) {
	for _, k := range append(noKinds(), 1, 2, 3, 4, 5) {
		kind.Of(kind.Name(k))
		for _, s := range slices.Concat(texts(), noTexts()) {
			kind.Of(s)
			for _, n := range numbers() {
				v := api.Value{Kind: k, N: n, S: s}
				kind.Valid(v)
				kind.Order(v, api.Value{Kind: 2, N: 1 << 63})
			}
		}
		wantTheStart(t)
	}
}

func TestManyAskAtOnce(t *testing.T) {
	var all sync.WaitGroup
	for range 8 {
		all.Go(func() {
			for range 200 {
				wantTheStart(t)
				spoil(kind.Entries())
			}
		})
	}
	all.Wait()
}

// P4.2

func TestOfAndNameOfTheKinds(t *testing.T) {
	for i, name := range []string{"uint", "int", "bool", "text", "bytes"} {
		if k := kind.Of(name); k != i+1 {
			t.Errorf("Of(%s): %d", name, k)
		}
		if got := kind.Name(i + 1); got != name {
			t.Errorf("Name(%d): %q, not %s", i+1, got, name)
		}
		if k := kind.Of(strings.Clone("x" + name)[1:]); k != i+1 {
			t.Errorf("Of(%s), a piece of a text: %d", name, k)
		}
	}
}

func TestNameOfNoKind(t *testing.T) {
	for _, k := range noKinds() {
		if name := kind.Name(k); name != "" {
			t.Errorf("Name(%d): %q", k, name)
		}
	}
	for k := -1000; k <= 1000; k++ {
		if name := kind.Name(k); (name != "") != (1 <= k && k <= 5) {
			t.Errorf("Name(%d): %q", k, name)
		}
	}
}

// otherEntries are the names of the other families' entries.
func otherEntries() []string {
	return strings.Fields("uint-int int-uint uint-text int-text text-uint text-int bool-text text-bool bool-uint uint-bool text-bytes bytes-text" +
		" add rename split join retype drop load const conv head tail count sum min max first last distinct")
}

func TestOfNoKind(t *testing.T) {
	names := append(otherEntries(), "", "real", "kind", "none", "u", "string", "byte", "integer", "1", "2", "5", "0", "-1", "\x00", "é", "\xff", "ｉｎｔ", "uintint", "uint int", "int,bool")
	for _, e := range table() {
		s := e.Name
		names = append(names, strings.ToUpper(s), strings.ToUpper(s[:1])+s[1:], s[:1]+strings.ToUpper(s[1:]), s[:len(s)-1], s[1:], s[:1], s+"s", s+s, s+" ", " "+s, s+"\n", s+"\x00", "\x00"+s, s+"-", "-"+s, s+"\xff", strings.Repeat(s, 1000))
	}
	for _, name := range names {
		if name == "int" { // uint without its first byte
			continue
		}
		if k := kind.Of(name); k != 0 {
			t.Errorf("Of(%q): %d", name, k)
		}
	}
}

func TestOfOtherLetters(t *testing.T) {
	for i, e := range table() {
		for at := range e.Name {
			for c := range 256 {
				b := []byte(e.Name)
				b[at] = byte(c)
				want := 0
				if byte(c) == e.Name[at] {
					want = i + 1
				}
				if k := kind.Of(string(b)); k != want {
					t.Errorf("Of(%q): %d, not %d", b, k, want)
				}
			}
		}
	}
}

// P4.3

// wantValid looks what Valid answers of a value.
func wantValid(t *testing.T, k int, n uint64, s string, want bool) {
	t.Helper()
	v := api.Value{Kind: k, N: n, S: s}
	if got := kind.Valid(v); got != want {
		t.Errorf("Valid(%s): %v", show(v), got)
	}
}

func TestValidOfNumbers(t *testing.T) {
	for _, n := range numbers() {
		wantValid(t, 1, n, "", true)
		wantValid(t, 2, n, "", true)
		for _, s := range slices.Concat(texts(), noTexts()) {
			wantValid(t, 1, n, s, s == "")
			wantValid(t, 2, n, s, s == "")
		}
	}
}

func TestValidOfBools(t *testing.T) {
	for _, n := range numbers() {
		for _, s := range slices.Concat(texts(), noTexts()) {
			wantValid(t, 3, n, s, s == "" && (n == 0 || n == 1))
		}
	}
}

func TestValidOfTextsAndBytes(t *testing.T) {
	for _, n := range numbers() {
		for _, s := range texts() {
			wantValid(t, 4, n, s, n == 0)
			wantValid(t, 5, n, s, n == 0)
		}
		for _, s := range noTexts() {
			wantValid(t, 4, n, s, false)
			wantValid(t, 5, n, s, n == 0)
		}
	}
	for c := range 256 {
		for d := range 256 {
			b := []byte{byte(c), byte(d)}
			two := c < 0x80 && d < 0x80 || 0xc2 <= c && c <= 0xdf && 0x80 <= d && d <= 0xbf
			wantValid(t, 4, 0, string(b[:1]), c < 0x80)
			wantValid(t, 4, 0, string(b), two)
			wantValid(t, 5, 0, string(b), true)
		}
	}
}

func TestValidOfNoKind(t *testing.T) {
	for _, k := range noKinds() {
		for _, n := range numbers() {
			for _, s := range []string{"", "a", "é", "\xff", "uint"} {
				wantValid(t, k, n, s, false)
			}
		}
	}
}

// P4.4

// wantOrder looks what Order answers of two values, and of the same the other way round.
func wantOrder(t *testing.T, a api.Value, b api.Value, want int) {
	t.Helper()
	if x := kind.Order(a, b); x != want {
		t.Errorf("Order(%s, %s): %d, not %d", show(a), show(b), x, want)
	}
	if x := kind.Order(b, a); x != -want {
		t.Errorf("Order(%s, %s): %d, not %d", show(b), show(a), x, -want)
	}
}

func TestOrderByHand(t *testing.T) {
	for _, c := range []struct {
		a, b api.Value
		want int
	}{
		{api.Value{Kind: 2, N: 1<<64 - 1}, api.Value{Kind: 2}, -1},
		{api.Value{Kind: 1, N: 1<<64 - 1}, api.Value{Kind: 1}, 1},
		{api.Value{Kind: 2, N: 1 << 63}, api.Value{Kind: 2, N: 1<<64 - 1}, -1},
		{api.Value{Kind: 2, N: 1 << 63}, api.Value{Kind: 2, N: 1<<63 - 1}, -1},
		{api.Value{Kind: 1, N: 1 << 63}, api.Value{Kind: 1, N: 1<<63 - 1}, 1},
		{api.Value{Kind: 3, N: 1 << 63}, api.Value{Kind: 3, N: 1<<63 - 1}, 1},
		{api.Value{Kind: 4, N: 1 << 63}, api.Value{Kind: 4, N: 1<<63 - 1}, 1},
		{api.Value{Kind: 5, N: 1 << 63}, api.Value{Kind: 5, N: 1<<63 - 1}, 1},
		{api.Value{Kind: 0, N: 1 << 63}, api.Value{Kind: 0, N: 1<<63 - 1}, 1},
		{api.Value{Kind: -2, N: 1 << 63}, api.Value{Kind: -2, N: 1<<63 - 1}, 1},
		{api.Value{Kind: 6, N: 1 << 63}, api.Value{Kind: 6, N: 1<<63 - 1}, 1},
		{api.Value{Kind: 3}, api.Value{Kind: 3, N: 1}, -1},
		{api.Value{Kind: 1, N: 9}, api.Value{Kind: 2}, -1},
		{api.Value{Kind: 1, N: 9, S: "b"}, api.Value{Kind: 2, N: 1 << 63, S: "a"}, -1},
		{api.Value{Kind: 4, S: "ab"}, api.Value{Kind: 4, S: "b"}, -1},
		{api.Value{Kind: 4, S: "a"}, api.Value{Kind: 4, S: "ab"}, -1},
		{api.Value{Kind: 4}, api.Value{Kind: 4, S: "\x00"}, -1},
		{api.Value{Kind: 4, S: "Z"}, api.Value{Kind: 4, S: "a"}, -1},
		{api.Value{Kind: 4, S: "\uffff"}, api.Value{Kind: 4, S: "\U00010000"}, -1},
		{api.Value{Kind: 5, S: "\xff"}, api.Value{Kind: 5, S: "a"}, 1},
		{api.Value{Kind: 5, S: "\x80"}, api.Value{Kind: 5, S: "\x7f"}, 1},
		{api.Value{Kind: 5, S: "a\x00"}, api.Value{Kind: 5, S: "a"}, 1},
		{api.Value{Kind: 5, S: "10"}, api.Value{Kind: 5, S: "9"}, -1},
		{api.Value{Kind: 4, S: strings.Repeat("a", 5000) + "a"}, api.Value{Kind: 4, S: strings.Repeat("a", 5000) + "b"}, -1},
		{api.Value{Kind: 4, N: 1, S: "a"}, api.Value{Kind: 4, S: "b"}, 1},
		{api.Value{Kind: 2, N: 5, S: "b"}, api.Value{Kind: 2, N: 5, S: "a"}, 1},
		{api.Value{Kind: 2, N: 1<<64 - 1, S: "b"}, api.Value{Kind: 2, N: 0, S: "a"}, -1},
		{api.Value{Kind: 1, N: 5, S: "b"}, api.Value{Kind: 1, N: 6, S: "a"}, -1},
		{api.Value{Kind: -3}, api.Value{Kind: 1}, -1},
		{api.Value{Kind: -3}, api.Value{Kind: -2}, -1},
		{api.Value{Kind: math.MinInt}, api.Value{Kind: math.MaxInt}, -1},
		{api.Value{Kind: math.MinInt}, api.Value{Kind: 1}, -1},
		{api.Value{Kind: math.MaxInt}, api.Value{Kind: -1}, 1},
		{api.Value{Kind: math.MaxInt}, api.Value{Kind: 5}, 1},
		{api.Value{Kind: 1 << 32}, api.Value{Kind: 1}, 1},
		{api.Value{}, api.Value{}, 0},
		{api.Value{Kind: -7, N: 1 << 63, S: "\xff"}, api.Value{Kind: -7, N: 1 << 63, S: "\xff"}, 0},
	} {
		wantOrder(t, c.a, c.b, c.want)
	}
}

// values are all that can be put together of these parts, most of them not valid.
func values(kinds []int, numbers []uint64, texts []string) []api.Value {
	var all []api.Value
	for _, k := range kinds {
		for _, n := range numbers {
			for _, s := range texts {
				all = append(all, api.Value{Kind: k, N: n, S: s})
			}
		}
	}
	return all
}

// manyValues hold every turn of Kind, N and S that the chapter names.
func manyValues() []api.Value {
	return values(
		[]int{math.MinInt, -2, -1, 0, 1, 2, 3, 4, 5, 6, math.MaxInt},
		[]uint64{0, 1, 2, 1<<63 - 1, 1 << 63, 1<<63 + 1, 1<<64 - 1},
		[]string{"", "\x00", "A", "a", "a\x00", "ab", "b", "é", "\xff", "a\xff", "\xed\xa0\x80"},
	)
}

// place is a row of bytes that stands among others as the chapter's words have a value stand among others.
func place(v api.Value) string {
	const least = uint64(1) << 63 // with it added, numbers with a sign stand as those without one
	k, n := uint64(v.Kind)+least, v.N
	if v.Kind == 2 {
		n += least
	}
	var b []byte
	for _, x := range []uint64{k, n} {
		for shift := 56; shift >= 0; shift -= 8 {
			b = append(b, byte(x>>shift))
		}
	}
	return string(b) + v.S
}

// plainOrder holds two rows of bytes against each other.
func plainOrder(a string, b string) int {
	for i := range min(len(a), len(b)) {
		if a[i] < b[i] {
			return -1
		}
		if a[i] > b[i] {
			return 1
		}
	}
	if len(a) < len(b) {
		return -1
	}
	if len(a) > len(b) {
		return 1
	}
	return 0
}

func TestOrderOfAllPairs(t *testing.T) {
	all := manyValues()
	places := make([]string, len(all))
	for i, v := range all {
		places[i] = place(v)
	}
	for i, a := range all {
		for j, b := range all {
			want := plainOrder(places[i], places[j])
			if got := kind.Order(a, b); got != want {
				t.Errorf("Order(%s, %s): %d, not %d", show(a), show(b), got, want)
			}
		}
	}
}

func TestOrderTheOtherWayRound(t *testing.T) {
	all := manyValues()
	for _, a := range all {
		for _, b := range all {
			x, y := kind.Order(a, b), kind.Order(b, a)
			if x < -1 || x > 1 || y != -x {
				t.Errorf("Order of %s and %s: %d, and %d the other way round", show(a), show(b), x, y)
			}
			if (x == 0) != (a == b) {
				t.Errorf("Order(%s, %s): %d", show(a), show(b), x)
			}
		}
	}
}

func TestOrderGoesOnThroughAThird(t *testing.T) {
	all := values([]int{-1, 0, 1, 2, 4, 6}, []uint64{0, 1, 1 << 63, 1<<64 - 1}, []string{"", "a", "ab", "\xff"})
	order := make([][]int, len(all))
	for i, a := range all {
		for _, b := range all {
			order[i] = append(order[i], kind.Order(a, b))
		}
	}
	for i := range all {
		for j := range all {
			for k := range all {
				if order[i][j] <= 0 && order[j][k] <= 0 && order[i][k] != min(order[i][j], order[j][k]) {
					t.Fatalf("%s, %s, %s: %d, %d, and the whole %d", show(all[i]), show(all[j]), show(all[k]), order[i][j], order[j][k], order[i][k])
				}
			}
		}
	}
}

func TestOrderOfWhatDiffersInOnePart(t *testing.T) {
	for _, v := range manyValues() {
		w := v
		w.S += "\x00"
		wantOrder(t, v, w, -1)
		w = v
		w.N++
		switch {
		case v.Kind == 2 && v.N == 1<<63-1, v.Kind != 2 && v.N == 1<<64-1: // the greatest, with and without a sign
			wantOrder(t, v, w, 1)
		default:
			wantOrder(t, v, w, -1)
		}
		if w = v; w.Kind < math.MaxInt {
			w.Kind++
			wantOrder(t, v, w, -1)
		}
		wantOrder(t, v, v, 0)
		w = v
		w.S = strings.Clone(v.S)
		wantOrder(t, v, w, 0)
	}
}

func TestOrderSortsFromAnyBeginning(t *testing.T) {
	want := manyValues()
	slices.SortFunc(want, func(a, b api.Value) int { return plainOrder(place(a), place(b)) })
	got := slices.Clone(want)
	slices.Reverse(got)
	x := uint64(1)
	for i := range got { // mixed, the same in each run
		x = x*6364136223846793005 + 1442695040888963407
		j := int(x >> 33 % uint64(i+1))
		got[i], got[j] = got[j], got[i]
	}
	slices.SortFunc(got, kind.Order)
	if !slices.Equal(got, want) {
		t.Error("sorted values stand in another order")
	}
}
