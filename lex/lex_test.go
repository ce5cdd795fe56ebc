package lex_test

import (
	"math/big"
	"strconv"
	"strings"
	"testing"

	"stratum/api"
	"stratum/lex"
)

// The examples of the chapter

func TestTokensOfTheChapter(t *testing.T) {
	wantTokens(t, "add n: int = -1;",
		at(0, 3, nameTok("add")), at(4, 5, nameTok("n")), at(5, 6, markTok(":")), at(7, 10, nameTok("int")),
		at(11, 12, markTok("=")), at(13, 14, markTok("-")), at(14, 15, numTok(1)), at(15, 16, markTok(";")), endTok(16))
	wantTokens(t, "12ab", at(0, 2, numTok(12)), at(2, 4, nameTok("ab")), endTok(4))
	wantOne(t, "007", numTok(7))
	wantOne(t, "18446744073709551615", numTok(1<<64-1))
	wantFault(t, "18446744073709551616", 0, api.ErrValue)
	wantTokens(t, "# and no newline", endTok(16))
	wantOne(t, `"a\x41\n"`, textTok("aA\n"))
	wantFault(t, `"a`, 0, api.ErrQuote)
	wantFault(t, `"\q"`, 1, api.ErrEscape)
	wantFault(t, `"\x4"`, 1, api.ErrEscape)
	wantFault(t, `"\`, 1, api.ErrEscape)
	wantFault(t, "a ?", 2, api.ErrByte)
	wantFault(t, strings.Repeat("a", 65), 0, api.ErrValue)
}

func TestNamesAndQuotesOfTheChapter(t *testing.T) {
	for s, want := range map[string]bool{
		"a_1": true, "": false, "1a": false, "a b": false, strings.Repeat("a", 64): true, strings.Repeat("a", 65): false,
	} {
		if lex.Name(s) != want {
			t.Errorf("Name(%s): %v", show(s), !want)
		}
	}
	if got := lex.Quote("a\"\n\xff"); got != `"a\"\n\xff"` {
		t.Errorf("Quote: %s", got)
	}
}

// P8.1: names

func TestNamesOfOneByte(t *testing.T) {
	for c := range 256 {
		s := string([]byte{byte(c)})
		isName := strings.Contains(letters, s)
		if lex.Name(s) != isName {
			t.Errorf("Name(%s): %v", show(s), !isName)
		}
		if isName {
			wantOne(t, s, nameTok(s))
		}
	}
}

func TestEachByteAtEachPlaceOfAName(t *testing.T) {
	for _, length := range []int{2, 3, 64} {
		for place := range length {
			for c := range 256 {
				s := strings.Repeat("n", place) + string([]byte{byte(c)}) + strings.Repeat("m", length-place-1)
				isLetter := strings.IndexByte(letters, byte(c)) >= 0
				isName := isLetter || place > 0 && strings.IndexByte(digits, byte(c)) >= 0
				if lex.Name(s) != isName {
					t.Errorf("Name(%s): %v", show(s), !isName)
				}
				if isName {
					wantOne(t, s, nameTok(s))
				}
			}
		}
	}
}

func TestNamesByTheirLength(t *testing.T) {
	for _, first := range []string{"a", "Z", "_"} {
		for _, rest := range []string{"n", "Q", "_", "0", "9"} {
			for _, n := range []int{1, 2, 63, 64, 65, 66, 128, 256, 65536} {
				s := first + strings.Repeat(rest, n-1)
				if lex.Name(s) != (n <= 64) {
					t.Errorf("Name(%s): %v", show(s), n > 64)
				}
				if n <= 64 {
					wantOne(t, s, nameTok(s))
					continue
				}
				wantFault(t, s, 0, api.ErrValue)
				wantFault(t, " "+s+" ", 1, api.ErrValue)
				wantFault(t, "a "+s, 2, api.ErrValue)
				wantFault(t, s+"?", 0, api.ErrValue)
			}
		}
	}
}

// P8.1: numbers

func TestNumbersWithZerosAhead(t *testing.T) {
	for _, n := range []uint64{0, 1, 7, 10, 300, 1<<63 - 1, 1 << 63, 1<<64 - 1} {
		for _, zeros := range []int{0, 1, 2, 19, 20, 21, 64, 65, 1000} {
			wantOne(t, strings.Repeat("0", zeros)+strconv.FormatUint(n, 10), numTok(n))
		}
	}
	wantOne(t, strings.Repeat("0", api.MaxText), numTok(0))
	wantOne(t, strings.Repeat("0", api.MaxText-1)+"9", numTok(9))
	wantFault(t, strings.Repeat("0", 100)+"18446744073709551616", 0, api.ErrValue)
}

func TestNumbersAroundTheGreatest(t *testing.T) {
	greatest := new(big.Int).SetUint64(1<<64 - 1)
	for step := int64(-30); step <= 30; step++ {
		n := new(big.Int).Add(greatest, big.NewInt(step))
		if n.IsUint64() {
			wantOne(t, n.String(), numTok(n.Uint64()))
			continue
		}
		wantFault(t, n.String(), 0, api.ErrValue)
		wantFault(t, "x"+" "+n.String()+"ab", 2, api.ErrValue)
	}
}

func TestNumbersOfManyDigits(t *testing.T) {
	for exponent := range 200 {
		n := new(big.Int).Exp(big.NewInt(2), big.NewInt(int64(exponent)), nil)
		ten := new(big.Int).Exp(big.NewInt(10), big.NewInt(int64(exponent)), nil)
		for _, x := range []*big.Int{n, ten, new(big.Int).Add(n, big.NewInt(5)), new(big.Int).Sub(ten, big.NewInt(1))} {
			if x.IsUint64() {
				wantOne(t, x.String(), numTok(x.Uint64()))
			} else {
				wantFault(t, x.String(), 0, api.ErrValue)
			}
		}
	}
	wantFault(t, strings.Repeat("9", api.MaxText), 0, api.ErrValue)
	wantFault(t, strings.Repeat("1", 20)+"0"+"?", 0, api.ErrValue)
	wantFault(t, "1"+strings.Repeat("0", 20), 0, api.ErrValue)
}

func TestNumbersAheadOfNames(t *testing.T) {
	for _, c := range letters {
		s := string(c)
		wantTokens(t, "0"+s, at(0, 1, numTok(0)), at(1, 2, nameTok(s)), endTok(2))
		wantTokens(t, "12"+s+"3", at(0, 2, numTok(12)), at(2, 4, nameTok(s+"3")), endTok(4))
	}
	long := strings.Repeat("n", 64)
	wantTokens(t, "1"+long, at(0, 1, numTok(1)), at(1, 65, nameTok(long)), endTok(65))
	wantFault(t, "1"+long+"2", 1, api.ErrValue)
	wantTokens(t, "0x10", at(0, 1, numTok(0)), at(1, 4, nameTok("x10")), endTok(4))
	wantTokens(t, "1e5", at(0, 1, numTok(1)), at(1, 3, nameTok("e5")), endTok(3))
	wantTokens(t, "1_000", at(0, 1, numTok(1)), at(1, 5, nameTok("_000")), endTok(5))
	wantTokens(t, "+1", at(0, 1, markTok("+")), at(1, 2, numTok(1)), endTok(2))
	wantFault(t, "1.5", 1, api.ErrByte)
}

// P8.1: texts

func TestTextsOfEachByte(t *testing.T) {
	for c := range 256 {
		s := string([]byte{byte(c)})
		switch s {
		case `"`:
			wantFault(t, `"""`, 2, api.ErrQuote)
			wantTokens(t, `""`+`"b"`, at(0, 2, textTok("")), at(2, 5, textTok("b")), endTok(5))
		case "\n":
			wantFault(t, "\"\n\"", 0, api.ErrQuote)
			wantFault(t, "\"a\nb\"", 0, api.ErrQuote)
		case `\`:
			wantFault(t, `"\a"`, 1, api.ErrEscape)
		default:
			wantOne(t, `"`+s+`"`, textTok(s))
			wantOne(t, `"a`+s+s+`b"`, textTok("a"+s+s+"b"))
		}
	}
	wantOne(t, `""`, textTok(""))
	wantOne(t, `" # { 12 "`, textTok(" # { 12 "))
	long := strings.Repeat("n", 65) + strings.Repeat("9", 30)
	wantOne(t, `"`+long+`"`, textTok(long))
}

func TestEscapesOfEachByte(t *testing.T) {
	stands := map[byte]string{'\\': "\\", '"': "\"", 'n': "\n", 't': "\t"}
	for c := range 256 {
		s := `\` + string([]byte{byte(c)})
		want, isEscape := stands[byte(c)]
		if isEscape {
			wantOne(t, `"`+s+`"`, textTok(want))
			wantOne(t, `"a`+s+s+`b"`, textTok("a"+want+want+"b"))
			continue
		}
		wantFault(t, `"`+s+`"`, 1, api.ErrEscape)
		wantFault(t, `"ab`+s+`"`, 3, api.ErrEscape)
	}
}

func TestEscapesByTwoDigits(t *testing.T) {
	const small, great = "0123456789abcdef", "0123456789ABCDEF"
	for c := range 256 {
		want := textTok(string([]byte{byte(c)}))
		for _, high := range []string{small, great} {
			for _, low := range []string{small, great} {
				wantOne(t, `"\x`+high[c>>4:c>>4+1]+low[c&15:c&15+1]+`"`, want)
			}
		}
	}
	wantOne(t, `"\x414"`, textTok("A4"))
	wantOne(t, `"\x41\x42\n\x43"`, textTok("AB\nC"))
	for c := range 256 {
		s := string([]byte{byte(c)})
		if strings.Contains("0123456789abcdefABCDEF", s) {
			continue
		}
		wantFault(t, `"\x`+s+`0"`, 1, api.ErrEscape)
		wantFault(t, `"\x0`+s+`0"`, 1, api.ErrEscape)
		wantFault(t, `"zz\x0`+s+`"`, 3, api.ErrEscape)
	}
	wantFault(t, `"\X41"`, 1, api.ErrEscape)
	wantFault(t, `"\x-1"`, 1, api.ErrEscape)
	wantFault(t, `"\x+1"`, 1, api.ErrEscape)
	wantFault(t, `"\x_1"`, 1, api.ErrEscape)
	wantFault(t, `"\x1_"`, 1, api.ErrEscape)
}

func TestTextsWithoutAnEnd(t *testing.T) {
	for _, s := range []string{`"`, `"a`, `"a\"`, `"\\\"`, `"\x41`, `"\n`, "\"a\n", "\"\n", "\"a\n\"", "\"a\\\"\n\"", "\"#\n\"", "\"a\nb\"c\\q\""} {
		wantFault(t, s, 0, api.ErrQuote)
		wantFault(t, "x {"+s, 3, api.ErrQuote)
		wantFault(t, `"a""b" `+s, 7, api.ErrQuote)
	}
}

func TestWrongEscapesAndMissingEnds(t *testing.T) {
	for _, cut := range []string{`\x`, `\x4`, `\xa`, `\xg`, `\q`, `\N`, `\'`, `\0`, `\u0041`, `\ `, "\\\r", "\\\xff"} {
		for _, behind := range []string{"", "\n", "\n\"", "\"", "\" ?", "z", " ", `\"`} {
			wantFault(t, `"`+cut+behind, 1, api.ErrEscape)
			wantFault(t, `x "ab`+cut+behind, 5, api.ErrEscape)
		}
	}
	wantFault(t, "\"a\\q\nb\"", 2, api.ErrEscape) // the escape is met first
	wantFault(t, "\"a\nb\\q\"", 0, api.ErrQuote)  // the newline is met first
	wantFault(t, "\"\\\n\"", 1, api.ErrEscape)
	wantFault(t, "\"\\q\\r\"", 1, api.ErrEscape)
	wantFault(t, `"\"`, 0, api.ErrQuote)
	wantFault(t, `"\\`, 0, api.ErrQuote)
	wantFault(t, `"\\\`, 3, api.ErrEscape)
	wantFault(t, `"\x4a`, 0, api.ErrQuote)
}

// P8.1: marks, and bytes that begin no token

func TestEachByteByItselfAndBehindOthers(t *testing.T) {
	for c := range 256 {
		s := string([]byte{byte(c)})
		switch {
		case strings.Contains(marks, s):
			wantOne(t, s, markTok(s))
			wantTokens(t, "a"+s+"1", at(0, 1, nameTok("a")), at(1, 2, markTok(s)), at(2, 3, numTok(1)), endTok(3))
			wantTokens(t, s+s, at(0, 1, markTok(s)), at(1, 2, markTok(s)), endTok(2))
		case strings.Contains(blanks, s):
			wantTokens(t, s, endTok(1))
			wantTokens(t, s+s+"a"+s, at(2, 3, nameTok("a")), endTok(4))
		case s == "#":
			wantTokens(t, s, endTok(1))
		case s == `"`:
			wantFault(t, s, 0, api.ErrQuote)
		case strings.Contains(letters, s):
			wantOne(t, s, nameTok(s))
		case strings.Contains(digits, s):
			wantOne(t, s, numTok(uint64(c-'0')))
		default:
			wantFault(t, s, 0, api.ErrByte)
			for _, ahead := range []string{"a", "1", "{", `"a"`, " ", "\n", "#\n", "event a { version 1 { "} {
				wantFault(t, ahead+s, len(ahead), api.ErrByte)
				wantFault(t, ahead+s+"\xff\"", len(ahead), api.ErrByte)
			}
		}
	}
}

func TestMarksInARow(t *testing.T) {
	var want []api.Token
	for i := range len(marks) {
		want = append(want, at(i, i+1, markTok(marks[i:i+1])))
	}
	wantTokens(t, marks, append(want, endTok(len(marks)))...)
	wantTokens(t, "--1", at(0, 1, markTok("-")), at(1, 2, markTok("-")), at(2, 3, numTok(1)), endTok(3))
	wantFault(t, "a / b", 2, api.ErrByte)
	wantFault(t, "[", 0, api.ErrByte)
	wantFault(t, "a.b", 1, api.ErrByte)
	wantFault(t, "'a'", 0, api.ErrByte)
}

// P8.1: blanks and remarks

func TestBlanks(t *testing.T) {
	wantTokens(t, "", endTok(0))
	wantTokens(t, " \t\r\n \n\n", endTok(7))
	wantTokens(t, "\r\na\tb c\r\n", at(2, 3, nameTok("a")), at(4, 5, nameTok("b")), at(6, 7, nameTok("c")), endTok(9))
	for _, none := range []string{"\x00", "\x0b", "\x0c", "\x08", "\x0e", "\x1f", "\x7f", "\x85", "\xa0", "\xc2\xa0", "\xc2\x85", "\xe2\x80\xa8", "\xef\xbb\xbf"} {
		wantFault(t, none, 0, api.ErrByte)
		wantFault(t, "a "+none, 2, api.ErrByte)
	}
}

func TestRemarks(t *testing.T) {
	a, b := nameTok("a"), nameTok("b")
	wantTokens(t, "#x\na", at(3, 4, a), endTok(4))
	wantTokens(t, "a#x\nb", at(0, 1, a), at(4, 5, b), endTok(5))
	wantTokens(t, "a # x", at(0, 1, a), endTok(5))
	wantTokens(t, "a # x\n", at(0, 1, a), endTok(6))
	wantTokens(t, "#", endTok(1))
	wantTokens(t, "##\n#\n\n#", endTok(7))
	wantTokens(t, "a # \" ? \\q # \xff\x00\nb", at(0, 1, a), at(16, 17, b), endTok(17))
	wantTokens(t, "a #\r b\nb", at(0, 1, a), at(7, 8, b), endTok(8))
	wantTokens(t, "#\\\nb", at(3, 4, b), endTok(4))
	wantTokens(t, `"a#b"#"`, at(0, 5, textTok("a#b")), endTok(7))
	wantFault(t, "# ?\n?", 4, api.ErrByte)
	wantFault(t, "\"# \n\"", 0, api.ErrQuote)
	all := strings.ReplaceAll(allBytes(), "\n", "")
	wantTokens(t, "#"+all+"\na", at(257, 258, a), endTok(258))
}

// P8.1: the first fault of several

func TestTheFirstFault(t *testing.T) {
	long, great := strings.Repeat("n", 65), "99999999999999999999"
	faults := []struct {
		s   string
		at  int
		err api.Errno
	}{
		{"?", 0, api.ErrByte}, {`"\q"`, 1, api.ErrEscape}, {"\"a\n", 0, api.ErrQuote}, {long, 0, api.ErrValue}, {great, 0, api.ErrValue},
	}
	for _, first := range faults {
		for _, second := range faults {
			wantFault(t, first.s+" "+second.s, first.at, first.err)
			wantFault(t, "a "+first.s+" "+second.s, 2+first.at, first.err)
		}
	}
	wantFault(t, great+long, 0, api.ErrValue)
	wantFault(t, "1"+long+great, 1, api.ErrValue)
	wantFault(t, `"`+long+`\q`, 66, api.ErrEscape)
}

// P8.1: the length of a text

func TestTextsOfTheGreatestLength(t *testing.T) {
	const most = 1048576
	a := nameTok("a")
	wantTokens(t, strings.Repeat(" ", most), endTok(most))
	wantTokens(t, "#"+strings.Repeat("?", most-1), endTok(most))
	wantTokens(t, strings.Repeat(" ", most-1)+"a", at(most-1, most, a), endTok(most))
	wantOne(t, `"`+strings.Repeat("\xff", most-2)+`"`, textTok(strings.Repeat("\xff", most-2)))
	wantOne(t, `"`+strings.Repeat(`\x00`, most/4-1)+`  "`, textTok(strings.Repeat("\x00", most/4-1)+"  "))
	wantFault(t, strings.Repeat(" ", most-1)+"?", most-1, api.ErrByte)
	wantFault(t, `"`+strings.Repeat(" ", most-1), 0, api.ErrQuote)
	wantFault(t, `"`+strings.Repeat(" ", most-2)+`\`, most-1, api.ErrEscape)
	wantFault(t, strings.Repeat("n", most), 0, api.ErrValue)
	for _, fault := range []string{"?", `"\q"`, `"`, strings.Repeat("n", 65), "99999999999999999999", "a", "#", " "} {
		wantFault(t, fault+strings.Repeat(" ", most+1-len(fault)), 0, api.ErrLong)
		wantFault(t, strings.Repeat(" ", most+1-len(fault))+fault, 0, api.ErrLong)
		wantFault(t, fault+strings.Repeat(" ", 2*most), 0, api.ErrLong)
	}
}

func TestManyTokens(t *testing.T) {
	const most = 1048576
	got, place, err := lex.Lex(strings.Repeat("{a", most/2))
	if len(got) != most+1 || place != 0 || err != api.OK {
		t.Fatalf("%d tokens, %d at %d", len(got), err, place)
	}
	for i, k := range got[:most] {
		want := at(i, i+1, markTok("{"))
		if i%2 == 1 {
			want = at(i, i+1, nameTok("a"))
		}
		if k != want {
			t.Fatalf("token %d: %+v", i, k)
		}
	}
	if got[most] != endTok(most) {
		t.Errorf("the end: %+v", got[most])
	}
}

// P8.1, P8.2 and P8.4: all short texts, and scattered ones

func TestAllShortTexts(t *testing.T) {
	pieces := []string{"a", "Z", "_", "x", "n", "0", "9", `"`, `\`, " ", "\n", "#", "{", "-", "?", "\xff"}
	everyText(pieces, 4, func(s string) { wantPlain(t, s) })
}

func TestAllShortQuotedTexts(t *testing.T) {
	pieces := []string{`"`, `\`, "x", "4", "n", "\n", "q"}
	everyText(pieces, 5, func(s string) {
		wantPlain(t, s)
		wantPlain(t, `"`+s+`"`)
	})
}

func TestScatteredTexts(t *testing.T) {
	r := lcg(8)
	pieces := []string{
		"event", "a", "{", "version", "1", "}", "add", ":", "uint", ";", "= ", `"n"`, " ", "\n", "\t", "\r\n", "# remark\n", "#\"\n", "x_1",
		`"\x41\\\"\n\t"`, "18446744073709551615", "0007", "-", "+", "*", "(", ")", ",", `""`, `"#"`, "\"\xff\x00\"",
	}
	faults := []string{"?", "\x00", "\xc3\xa9", `"`, `"\q"`, `"\x4`, "\"\n", strings.Repeat("n", 65), "18446744073709551616", "#", "\\"}
	for range 20000 {
		var s strings.Builder
		for range r.below(30) {
			if r.below(40) == 0 {
				s.WriteString(r.oneOf(faults))
			} else {
				s.WriteString(r.oneOf(pieces))
			}
		}
		wantPlain(t, s.String())
	}
	for range 20000 {
		wantPlain(t, r.bytesOf(allBytes(), r.below(12)))
		wantPlain(t, r.bytesOf("ab01 \n\"\\x#{;", r.below(40)))
	}
}

// P8.2

func TestNamesWithBlanksAndRemarks(t *testing.T) {
	for _, s := range []string{
		"", " ", " a", "a ", "\ta", "a\n", "a\r", "\na", "a#", "a#x", "a #x", "#a", "#\na", "#x\na\n", "a b", "a\nb", "a-b", "a;", "{", "1", "1a", "12", `"a"`, `"`,
		"a\"b\"", "a?", "?", "?a", "a\x00", "\x00", "\xff", "a\xff", "\xc3\xa9", "a\xc3\xa9", "-a", "a+1",
		strings.Repeat("a", 65), strings.Repeat("a", 64) + " ", " " + strings.Repeat("a", 64), strings.Repeat("a", api.MaxText), strings.Repeat("a", api.MaxText+1),
		strings.Repeat("a", 64) + strings.Repeat(" ", api.MaxText), strings.Repeat("_", 65), strings.Repeat("a", 64+256), strings.Repeat("a", 1<<16+1),
	} {
		if lex.Name(s) {
			t.Errorf("Name(%s)", show(s))
		}
	}
	for _, s := range []string{"a", "_", "__", "Z9", "event", "version", "true", "uint", "_0", "A_b_1", strings.Repeat("_", 64), "a" + strings.Repeat("9", 63)} {
		if !lex.Name(s) {
			t.Errorf("Name(%s): none", show(s))
		}
	}
}

// P8.3

func TestQuoteOfEachByte(t *testing.T) {
	for c := range 256 {
		s := string([]byte{byte(c)})
		wantQuote(t, s)
		wantQuote(t, "x"+s+s+"41")
	}
	for s, want := range map[string]string{
		"": `""`, " ": `" "`, "~": `"~"`, "\x1f": `"\x1f"`, "\x7f": `"\x7f"`, "\x00": `"\x00"`, "\r": `"\x0d"`, "\xab": `"\xab"`,
		"'": `"'"`, "#": `"#"`, `\n`: `"\\n"`, `\x41`: `"\\x41"`, "\xc3\xa9": `"\xc3\xa9"`, `"`: `"\""`, `\`: `"\\"`, "\n\t": `"\n\t"`,
	} {
		if got := lex.Quote(s); got != want {
			t.Errorf("Quote(%s): %s, not %s", show(s), got, want)
		}
	}
}

func TestQuoteOfLongAndScatteredTexts(t *testing.T) {
	wantQuote(t, "")
	wantQuote(t, allBytes())
	r := lcg(83)
	for range 3000 {
		wantQuote(t, r.bytesOf(allBytes(), r.below(40)))
		wantQuote(t, r.bytesOf(`\"nx4`+"\n\t", r.below(20)))
	}
	for _, n := range []int{api.MaxText - 3, api.MaxText - 2, api.MaxText - 1, api.MaxText, api.MaxText + 1, 3 * api.MaxText} {
		wantQuote(t, strings.Repeat("a", n))
	}
	wantQuote(t, strings.Repeat("\xff", api.MaxText/4))
	wantQuote(t, strings.Repeat("\xff", api.MaxText/4-1))
	wantQuote(t, strings.Repeat("\n", api.MaxText))
}

// P8.5

func TestBlanksAndRemarksBetween(t *testing.T) {
	stuffs := []string{" ", "\t", "\n", "\r", " \t\r\n", "#\n", "# a \" ? \\q # \xff\n", "\n# x\n\n#\n ", "#\"\n"}
	texts := []string{
		"", "a", "12ab", "add n: int = -1;", `event a{version 1{add x:uint="\x41\n"+"b";}}`, "a{b}c(1)2:3;4,5=6+7-8*9", "1_2", `"a""b"c"d"`,
		"# remark\na # another\n", "007abc", "a#\nb",
	}
	for _, s := range texts {
		for _, stuff := range stuffs {
			wantThrough(t, s, func() string { return stuff })
		}
	}
	r := lcg(85)
	for _, s := range texts {
		for range 200 {
			wantThrough(t, s, func() string {
				if r.below(3) == 0 {
					return ""
				}
				return r.oneOf(stuffs) + r.oneOf(stuffs)
			})
		}
	}
}

func TestARemarkBehindEndsNoToken(t *testing.T) {
	tokens, _, _ := lex.Lex("a 1")
	more, _, err := lex.Lex("a# 1\n#\n 1 # and on")
	if err != api.OK || len(more) != len(tokens) {
		t.Fatalf("%d tokens, %d", len(more), err)
	}
	for i, k := range withoutPlaces(more) {
		if k != unplaced(tokens[i]) {
			t.Errorf("token %d: %+v", i, k)
		}
	}
}

// Rules 3 and 4: what is answered is new memory, and the same every time

func TestNewMemory(t *testing.T) {
	s := strings.Clone(`event a_long_name_of_more_bytes { "text" "\x41" : 12 ; }`)
	got, _, _ := lex.Lex(s)
	again, _, _ := lex.Lex(s)
	wantSame(t, s, again, got)
	for i := range got {
		if share(got[i].Text, s) {
			t.Errorf("token %d shares the text's memory", i)
		}
		if share(got[i].Text, again[i].Text) {
			t.Errorf("token %d shares another answer's memory", i)
		}
	}
	clear(got[:cap(got)])
	third, _, _ := lex.Lex(s)
	wantSame(t, s, third, again)
	if q := lex.Quote(s); share(q, s) || q != lex.Quote(s) || share(q, lex.Quote(s)) {
		t.Errorf("Quote shares memory")
	}
}
