package part_test

import (
	"encoding/hex"
	"math"
	"slices"
	"strings"
	"testing"

	"stratum/api"
	"stratum/part"
)

// P7.1 and P7.2

// cut is a text, a separator, and what Index, Head and Tail answer of them.
type cut struct {
	s, sep     string
	at         int
	head, tail string
}

func TestCutsOfTheChapter(t *testing.T) {
	for _, c := range []cut{
		{"a,b,c", ",", 1, "a", "b,c"},
		{"aaa", "aa", 0, "", "a"},
		{"abc", "x", -1, "abc", ""},
		{"abc", "", -1, "abc", ""},
		{"", "a", -1, "", ""},
		{"ab", "ab", 0, "", ""},
		{"abc", ",", -1, "abc", ""},
		{",", ",", 0, "", ""},
	} {
		wantCut(t, c.s, c.sep, c.at, c.head, c.tail)
	}
}

func TestCutsByHand(t *testing.T) {
	for _, c := range []cut{
		{"", "", -1, "", ""},
		{" ", "", -1, " ", ""},
		{"a", "a", 0, "", ""},
		{"a", "b", -1, "a", ""},
		{",abc", ",", 0, "", "abc"},
		{"ab,c", ",", 2, "ab", "c"},
		{"abc,", ",", 3, "abc", ""},
		{",,", ",", 0, "", ","},
		{",a,", ",", 0, "", "a,"},
		{"a,,b", ",", 1, "a", ",b"},
		{"a, b, c", ", ", 1, "a", "b, c"},
		{"a ,b, c", ", ", 4, "a ,b", "c"},
		{"a, ", ", ", 1, "a", ""},
		{"a,", ", ", -1, "a,", ""},
		{" a", ", ", -1, " a", ""},
		{"Ada Byron King", " ", 3, "Ada", "Byron King"},
		{"one--two--three", "--", 3, "one", "two--three"},
		{"a---b", "--", 1, "a", "-b"},
		{"aaab", "aab", 1, "a", ""},
		{"aab", "ab", 1, "a", ""},
		{"aaabaab", "aab", 1, "a", "aab"},
		{"ababac", "abac", 2, "ab", ""},
		{"abababcab", "ababc", 2, "ab", "ab"},
		{"aabaabaaab", "aabaaa", 3, "aab", "b"},
		{"aaaa", "aa", 0, "", "aa"},
		{"aaaa", "aaaa", 0, "", ""},
		{"aaaa", "aaaaa", -1, "aaaa", ""},
		{"baaa", "aa", 1, "b", "a"},
		{"ab", "abc", -1, "ab", ""},
		{"bc", "abc", -1, "bc", ""},
		{"abc", "abd", -1, "abc", ""},
		{"abc", "ABC", -1, "abc", ""},
		{"a.c", ".", 1, "a", "c"},
		{"abc", ".", -1, "abc", ""},
		{"a*c", "a*", 0, "", "c"},
		{"a\x00b", "\x00", 1, "a", "b"},
		{"a\x00b", "\x00b", 1, "a", ""},
		{"\x00\x00\x01", "\x00\x01", 1, "\x00", ""},
		{"a\r\nb", "\n", 2, "a\r", "b"},
	} {
		wantCut(t, c.s, c.sep, c.at, c.head, c.tail)
	}
}

func TestCutsOfBytesThatAreNoCharacters(t *testing.T) {
	for _, c := range []cut{
		{"\xff\x00", "\x00", 1, "\xff", ""},
		{"a\xffb\xff", "\xff", 1, "a", "b\xff"},
		{"\xfe\xff", "\xff", 1, "\xfe", ""},
		{"\xfe\xfd", "\xff", -1, "\xfe\xfd", ""},
		{"a\xff", "\xef\xbf\xbd", -1, "a\xff", ""}, // the character that stands for bytes that are none
		{"a\ufffd", "\xff", -1, "a\ufffd", ""},
		{"a\ufffd", "\xbf", 2, "a\xef", "\xbd"},
		{"\xc3\xa9", "\xa9", 1, "\xc3", ""},
		{"\xc3\xa9", "\xc3", 0, "", "\xa9"},
		{"x\xe2\x82\xacy", "\x82", 2, "x\xe2", "\xacy"},
		{"x\xe2\x82\xacy", "\x82\xac", 2, "x\xe2", "y"},
		{"x\xe2\x82\xacy", "\xe2\x82", 1, "x", "\xacy"},
		{"x\xe2\x82\xacy", "\xacy", 3, "x\xe2\x82", ""},
		{"x\xe2\x82\xacy", "\xe2\x82\xac", 1, "x", "y"},
		{"\u00e9\u00e9", "\xa9\xc3", 1, "\xc3", "\xa9"},
		{"\U0001f600", "\x9f\x98", 1, "\xf0", "\x80"},
		{"\u00e8\u00e9", "\u00e9", 2, "\u00e8", ""},
		{"e\u0301", "\u00e9", -1, "e\u0301", ""}, // the same letter, in other bytes
		{"\xed\xa0\x80", "\xa0", 1, "\xed", "\x80"},
	} {
		wantCut(t, c.s, c.sep, c.at, c.head, c.tail)
	}
}

func TestCutsAtEachByte(t *testing.T) {
	all := allBytes()
	for c := range 256 {
		wantCut(t, all, all[c:c+1], c, all[:c], all[c+1:])
		wantCut(t, all+all, all[c:c+1], c, all[:c], all[c+1:]+all)
		wantCut(t, all[:c]+all[c+1:], all[c:c+1], -1, all[:c]+all[c+1:], "")
		for n := c; n <= 256; n += 17 {
			wantPlainCut(t, all, all[c:n])
			wantPlainCut(t, all[c:n], all)
		}
	}
}

// shortTexts are all texts of these letters with at most n bytes.
func shortTexts(letters string, n int) []string {
	all := []string{""}
	for from := 0; n > 0; n-- {
		upTo := len(all)
		for _, s := range all[from:upTo] {
			for i := range len(letters) {
				all = append(all, s+letters[i:i+1])
			}
		}
		from = upTo
	}
	return all
}

func TestCutsOfAllShortTexts(t *testing.T) {
	for _, letters := range []string{"ab", "\x00\xff", "\xc3\xa9"} {
		seps := shortTexts(letters, 5)
		for _, s := range shortTexts(letters, 8) {
			for _, sep := range seps {
				wantPlainCut(t, s, sep)
			}
		}
	}
	texts := shortTexts("a,\xff", 5)
	for _, s := range texts {
		for _, sep := range texts {
			wantPlainCut(t, s, sep)
		}
	}
}

func TestCutsOfScatteredTexts(t *testing.T) {
	r := lcg(7)
	for _, letters := range []string{"a", "ab", "aaaaaaab", "abc", "\xe2\x82\xac", allBytes()} {
		for range 3000 {
			s := r.bytesOf(letters, r.below(300))
			sep := r.bytesOf(letters, r.below(6))
			wantPlainCut(t, s, sep)
			from := r.below(len(s) + 1)
			upTo := from + r.below(len(s)-from+1)
			wantPlainCut(t, s, s[from:upTo])
			wantPlainCut(t, s, s[from:upTo]+sep)
			wantPlainCut(t, s[from:upTo], s)
		}
	}
}

func TestCutsAtEachPlace(t *testing.T) {
	for _, n := range []int{1, 2, 3, 7, 8, 15, 16, 17, 31, 32, 33, 63, 64, 65, 127, 128, 129, 300} {
		sep := strings.Repeat("a", n-1) + "b"
		for _, ahead := range []int{0, 1, 2, 15, 16, 31, 63, 64, 65, 200, 1000} {
			head := strings.Repeat("a", ahead)
			for _, tail := range []string{"", "a", "b", sep, "aaab" + sep} {
				wantCut(t, head+sep+tail, sep, ahead, head, tail)
			}
			wantCut(t, head+sep[:n-1], sep, -1, head+sep[:n-1], "")
		}
	}
}

func TestCutsOfLongTexts(t *testing.T) {
	const n = 1 << 20
	as := strings.Repeat("a", n)
	for _, sep := range []string{",", "\xff", "ba", "--", strings.Repeat("xy", 1000), "b" + as[:n/2]} {
		wantCut(t, as, sep, -1, as, "")
		wantCut(t, sep+as, sep, 0, "", as)
		wantCut(t, as+sep, sep, n, as, "")
		wantCut(t, as+sep+as, sep, n, as, as)
		wantCut(t, as+sep+"-"+sep, sep, n, as, "-"+sep)
	}
	wantCut(t, as, as, 0, "", "")
	wantCut(t, as, as+"a", -1, as, "")
	wantCut(t, as, as[:n/2], 0, "", as[:n/2])
	wantCut(t, as, "", -1, as, "")
	wantCut(t, "a", as, -1, "a", "")
	wantCut(t, "", as, -1, "", "")
	// Separators that agree with the text for long at each place.
	wantCut(t, as, as[:n/2]+"b", -1, as, "")
	wantCut(t, as+"b", as[:n/2]+"b", n/2, as[:n/2], "")
	wantCut(t, as+"b"+as, "aab", n-2, as[:n-2], as)
	abs := strings.Repeat("ab", n/2)
	wantCut(t, abs, abs[:n/2]+"b", -1, abs, "")
	wantCut(t, abs+"c", abs[:n/2]+"c", n/2, abs[:n/2], "")
}

// P7.3

func TestJoin(t *testing.T) {
	for _, c := range []struct {
		a, sep, b, want string
	}{
		{"a", ", ", "b", "a, b"},
		{"", "", "", ""},
		{"a", "", "", "a"},
		{"", ",", "", ","},
		{"", "", "b", "b"},
		{"a", ",", "", "a,"},
		{"a", "", "b", "ab"},
		{"", ",", "b", ",b"},
		{"ab", "-", "cd", "ab-cd"},
		{",", ",", ",", ",,,"},
		{"a,", ",", ",b", "a,,,b"},
		{" a ", " ", " b ", " a   b "},
		{"\x00", "\x00", "\x00", "\x00\x00\x00"},
		{"\xe2", "\x82", "\xac", "\u20ac"},
		{"\xff", "\xc3", "\xfe", "\xff\xc3\xfe"},
	} {
		if got := part.Join(c.a, c.sep, c.b); got != c.want {
			t.Errorf("Join(%s, %s, %s): %s, not %s", show(c.a), show(c.sep), show(c.b), show(got), show(c.want))
		}
	}
}

func TestJoinIsOneBehindTheOther(t *testing.T) {
	texts := []string{"", "a", "b", ",", ", ", "\x00", "\xff", "\xe2\x82", "\xac", allBytes(), strings.Repeat("xyz", 5000), strings.Repeat("\xff", 1<<20)}
	for _, a := range texts {
		for _, sep := range texts {
			for _, b := range texts {
				want := slices.Concat([]byte(a), []byte(sep), []byte(b))
				if got := part.Join(a, sep, b); got != string(want) {
					t.Errorf("Join(%s, %s, %s): %s", show(a), show(sep), show(b), show(got))
				}
			}
		}
	}
}

// P7.4

func TestRepOfTheChapter(t *testing.T) {
	for _, c := range []struct {
		s    string
		n    uint64
		want string
		err  api.Errno
	}{
		{"ab", 3, "ababab", api.OK},
		{"ab", 0, "", api.OK},
		{"", math.MaxUint64, "", api.OK},
		{"a", 4096, strings.Repeat("a", 4096), api.OK},
		{"a", 4097, "", api.ErrLong},
		{"ab", 2049, "", api.ErrLong},
		{"ab", 1 << 63, "", api.ErrLong},
		{"ab", 1, "ab", api.OK},
		{"ab", 2048, strings.Repeat("ab", 2048), api.OK},
		{"\xff\x00", 2, "\xff\x00\xff\x00", api.OK},
		{"\xc3\xa9", 2, "\u00e9\u00e9", api.OK},
	} {
		if got, err := part.Rep(c.s, c.n); got != c.want || err != c.err {
			t.Errorf("Rep(%s, %d): %s, %d, not %s, %d", show(c.s), c.n, show(got), err, show(c.want), c.err)
		}
	}
}

func TestRepOfTheEmptyText(t *testing.T) {
	for _, n := range []uint64{0, 1, 2, 4095, 4096, 4097, 1 << 31, 1<<32 + 1, math.MaxInt64, 1 << 63, math.MaxUint64} {
		if got, err := part.Rep("", n); got != "" || err != api.OK {
			t.Errorf("Rep of the empty text, %d times: %s, %d", n, show(got), err)
		}
	}
}

// scatteredText is a text of n bytes in which no piece is like the next.
func scatteredText(n int) string {
	r := lcg(n)
	return r.bytesOf(allBytes(), n)
}

func TestRepAtTheLimit(t *testing.T) {
	for length := 1; length <= 4200; length++ {
		s := scatteredText(length)
		most := uint64(4096 / length)
		for _, n := range []uint64{0, 1, 2, 3, most, most + 1, most + 2} {
			wantRep(t, s, n)
		}
	}
	for n := range uint64(4200) {
		wantRep(t, "a", n)
		wantRep(t, "ab", n)
	}
}

func TestRepOfTextsAboveTheLimit(t *testing.T) {
	for _, length := range []int{4097, 4098, 8191, 8192, 8193, 1 << 16, 1 << 20} {
		s := scatteredText(length)
		for n := range uint64(3) {
			wantRep(t, s, n)
		}
		if got, err := part.Rep(s, 0); got != "" || err != api.OK {
			t.Errorf("Rep of %d bytes, 0 times: %s, %d", length, show(got), err)
		}
		if got, err := part.Rep(s, 1); got != "" || err != api.ErrLong {
			t.Errorf("Rep of %d bytes, once: %s, %d", length, show(got), err)
		}
	}
}

func TestRepOfGreatNumbers(t *testing.T) {
	great := []uint64{math.MaxUint64, math.MaxUint64 - 1, math.MaxUint64 - 4095, math.MaxUint64 - 4096}
	for k := 13; k < 64; k++ {
		p := uint64(1) << k
		great = append(great, p-1, p, p+1, p+2, p+4096)
	}
	lengths := []int{1, 2, 3, 4, 5, 7, 8, 16, 64, 255, 256, 257, 1000, 4095, 4096, 4097, 8192, 1 << 16, 1 << 20}
	for _, length := range lengths {
		s := strings.Repeat("a", length)
		for _, n := range great {
			if got, err := part.Rep(s, n); got != "" || err != api.ErrLong {
				t.Errorf("Rep of %d bytes, %d times: %s, %d", length, n, show(got), err)
			}
		}
	}
}

// The numbers here are such that the least 64 bits of their products with the lengths are few.
func TestRepWhereTheProductComesOutSmall(t *testing.T) {
	for length := 2; length <= 5000; length++ {
		s := strings.Repeat("a", length)
		least := math.MaxUint64/uint64(length) + 1
		for _, n := range []uint64{least - 1, least, least + 1, least + uint64(4096/length)} {
			if got, err := part.Rep(s, n); got != "" || err != api.ErrLong {
				t.Errorf("Rep of %d bytes, %d times: %s, %d", length, n, show(got), err)
			}
		}
	}
}

// P7.5

func TestHexOfTheChapter(t *testing.T) {
	wantHex(t, "00fF7a", "\x00\xff\x7a")
	wantHex(t, "", "")
	for _, s := range []string{"abc", "0g", "0x00"} {
		wantNoHex(t, s)
	}
}

func TestHexByHand(t *testing.T) {
	wantHex(t, "01", "\x01")
	wantHex(t, "10", "\x10")
	wantHex(t, "09", "\x09")
	wantHex(t, "90", "\x90")
	wantHex(t, "0a", "\x0a")
	wantHex(t, "A0", "\xa0")
	wantHex(t, "c3A9", "\u00e9")
	wantHex(t, "0123456789abcdefABCDEF", "\x01\x23\x45\x67\x89\xab\xcd\xef\xab\xcd\xef")
	wantHex(t, "fedcba9876543210", "\xfe\xdc\xba\x98\x76\x54\x32\x10")
	for _, s := range []string{
		"0", "f", "g", "\x00", "000", "00000", "ab0", " 0", "0 ", "00 ", " 00", "00 00", "0 00", "+1", "-1", "1_", "_1", "0_0f", "0x", "0X1f", "#f", "\\x", "00\n", "0\n", "0\x00", "\x000",
		"\u00e9", "\xff\xff", "0\xff", "\xff0", "\uff11", "\u0660", "1.", "1e+2", "h0", "0h", "zz", "ZZ",
	} {
		wantNoHex(t, s)
	}
}

func TestHexOfAllBytes(t *testing.T) {
	all := allBytes()
	small := hex.EncodeToString([]byte(all))
	great := strings.ToUpper(small)
	wantHex(t, small, all)
	wantHex(t, great, all)
	for c := range 256 {
		want, at := all[c:c+1], 2*c
		for _, high := range []string{small[at : at+1], great[at : at+1]} {
			for _, low := range []string{small[at+1 : at+2], great[at+1 : at+2]} {
				wantHex(t, high+low, want)
				wantHex(t, "00"+high+low+"Ff", "\x00"+want+"\xff")
			}
		}
	}
}

func TestHexOfAllPairs(t *testing.T) {
	taken := 0
	for high := range 256 {
		for low := range 256 {
			s := string([]byte{byte(high), byte(low)})
			want, err := plainHex(s)
			if err != api.OK {
				wantNoHex(t, s)
				wantNoHex(t, "0f"+s)
				wantNoHex(t, s+"0f")
				continue
			}
			wantHex(t, s, want)
			taken++
		}
	}
	if taken != 22*22 {
		t.Errorf("%d pairs are a byte", taken)
	}
}

func TestHexOfBytesBesideTheDigits(t *testing.T) {
	for _, bad := range []string{"/", ":", "@", "G", "`", "g", "\x00", "\x7f", "\x80", "\xb0", "\xe1", "\xff"} {
		for _, digit := range []string{"0", "9", "a", "f", "A", "F"} {
			wantNoHex(t, bad+digit)
			wantNoHex(t, digit+bad)
			wantNoHex(t, bad+bad)
			for n := range 9 {
				front := strings.Repeat("5c", n)
				wantNoHex(t, front+bad+digit)
				wantNoHex(t, front+digit+bad)
				wantNoHex(t, front+bad+digit+front+"00")
				wantNoHex(t, front+digit+bad+front+"00")
			}
		}
	}
}

func TestHexOfOddNumbers(t *testing.T) {
	digits := strings.Repeat("0123456789abcdefABCDEF", 20)
	for n := range len(digits) {
		if n%2 == 1 {
			wantNoHex(t, digits[:n])
			wantNoHex(t, digits[n:])
			continue
		}
		want, _ := plainHex(digits[:n])
		wantHex(t, digits[:n], want)
	}
}

func TestHexOfLongTexts(t *testing.T) {
	const n = 1 << 20
	raw := scatteredText(n)
	digits := hex.EncodeToString([]byte(raw))
	wantHex(t, digits, raw)
	wantHex(t, digits[:n], raw[:n/2])
	wantHex(t, strings.ToUpper(digits), raw)
	wantNoHex(t, digits[1:])
	wantNoHex(t, digits+"0")
	for _, bad := range []string{"/", ":", "@", "G", "`", "g", "\x00", "\xff"} {
		wantNoHex(t, bad+digits[1:])
		wantNoHex(t, digits[:1]+bad+digits[2:])
		wantNoHex(t, digits[:n]+bad+digits[n+1:])
		wantNoHex(t, digits[:n+1]+bad+digits[n+2:])
		wantNoHex(t, digits[:2*n-2]+bad+"0")
		wantNoHex(t, digits[:2*n-1]+bad)
		wantNoHex(t, digits+bad)
		wantNoHex(t, digits+bad+"0")
	}
}

func TestHexIsTheWayBack(t *testing.T) {
	r := lcg(9)
	for n := range 600 {
		raw := r.bytesOf(allBytes(), n)
		digits := []byte(hex.EncodeToString([]byte(raw)))
		for i, c := range digits {
			if c >= 'a' && r.below(2) == 0 {
				digits[i] = c - 'a' + 'A'
			}
		}
		wantHex(t, string(digits), raw)
	}
}

// What holds everywhere: an answer is new memory.

func TestAnswersAreNewMemory(t *testing.T) {
	for _, n := range []int{1, 2, 31, 32, 33, 1000, 4096} {
		s, empty := scatteredText(n), ""
		more := s + "," + s
		rep, _ := part.Rep(s, 1)
		for _, c := range []struct {
			call, got, want, from string
		}{
			{"Head where the separator is empty", part.Head(s, empty), s, s},
			{"Head where there is no separator", part.Head(s, s+"x"), s, s},
			{"Head where the separator stands", part.Head(more, ","+s), s, more},
			{"Tail", part.Tail(more, s+","), s, more},
			{"Join of one text ahead", part.Join(s, empty, empty), s, s},
			{"Join of one text between", part.Join(empty, s, empty), s, s},
			{"Join of one text behind", part.Join(empty, empty, s), s, s},
			{"Rep of a text, once", rep, s, s},
		} {
			if c.got != c.want {
				t.Errorf("%s, of %d bytes: %s", c.call, n, show(c.got))
			}
			if share(c.got, c.from) {
				t.Errorf("%s, of %d bytes, shares memory with its argument", c.call, n)
			}
		}
	}
}
