package utf_test

import (
	"encoding/hex"
	"math"
	"slices"
	"strings"
	"sync"
	"testing"

	"stratum/utf"
)

// text is the bytes that hex digits tell; blanks between them are for the reader.
func text(t *testing.T, digits string) string {
	t.Helper()
	b, err := hex.DecodeString(strings.ReplaceAll(digits, " ", ""))
	if err != nil {
		t.Fatal(err)
	}
	return string(b)
}

// lcg is a row of numbers that is the same in every run.
type lcg uint64

func (r *lcg) below(n int) int {
	*r = *r*6364136223846793005 + 1442695040888963407
	return int(uint64(*r) >> 33 % uint64(n))
}

// The plain answers: those of the chapter's words, read from its table and from nothing else.

// isCharacter is the first sentence of the chapter's words.
func isCharacter(c int) bool {
	return 0 <= c && c <= 0x10ffff && !(0xd800 <= c && c <= 0xdfff)
}

// spelled is c in the bits of the table's row with n bytes, whether or not that is the row of c.
func spelled(c int, n int) string {
	if n == 1 {
		return string([]byte{byte(c)})
	}
	heads := []int{0, 0, 0xc0, 0xe0, 0xf0, 0xf8, 0xfc}
	b := make([]byte, n)
	for i := n - 1; i > 0; i-- {
		b[i] = byte(0x80 + c%64)
		c /= 64
	}
	b[0] = byte(heads[n] + c)
	return string(b)
}

// rowOf is how many bytes the table has for c.
func rowOf(c int) int {
	switch {
	case c <= 0x7f:
		return 1
	case c <= 0x7ff:
		return 2
	case c <= 0xffff:
		return 3
	}
	return 4
}

func plainPut(c int) string {
	if !isCharacter(c) {
		return ""
	}
	return spelled(c, rowOf(c))
}

// byBytes has every character at its bytes.
var byBytes = sync.OnceValue(func() map[string]int {
	all := make(map[string]int, 0x110000)
	for c := range 0x110000 {
		if isCharacter(c) {
			all[plainPut(c)] = c
		}
	}
	return all
})

func plainNext(s string) (int, int) {
	if s == "" {
		return -1, 0
	}
	for n := 1; n <= min(4, len(s)); n++ {
		if c, ok := byBytes()[s[:n]]; ok {
			return c, n
		}
	}
	return -1, 1
}

// through is what going through a text tells.
type through struct {
	fault  int
	count  int
	mended string
}

func plainThrough(s string) through {
	told := through{fault: -1}
	mended := ""
	for at := 0; at < len(s); {
		c, n := plainNext(s[at:])
		if c >= 0 {
			mended += s[at : at+n]
		} else {
			mended += "\xef\xbf\xbd"
			if told.fault < 0 {
				told.fault = at
			}
		}
		told.count++
		at += n
	}
	if told.fault < 0 {
		told.fault = len(s)
	}
	told.mended = mended
	return told
}

// wantNext looks what Next answers of s.
func wantNext(t *testing.T, s string, c int, n int) {
	t.Helper()
	if gc, gn := utf.Next(s); gc != c || gn != n {
		t.Errorf("Next(%x): %x, %d, not %x, %d", s, gc, gn, c, n)
	}
}

// wantPlainNext looks whether Next answers as the plain one.
func wantPlainNext(t *testing.T, s string) {
	t.Helper()
	c, n := plainNext(s)
	wantNext(t, s, c, n)
}

// wantThrough looks what Fault, Valid, Count and Mend answer of s.
func wantThrough(t *testing.T, s string, want through) {
	t.Helper()
	if got := utf.Fault(s); got != want.fault {
		t.Errorf("Fault(%x): %d, not %d", s, got, want.fault)
	}
	if got := utf.Valid(s); got != (want.fault == len(s)) {
		t.Errorf("Valid(%x): %v", s, got)
	}
	if got := utf.Count(s); got != want.count {
		t.Errorf("Count(%x): %d, not %d", s, got, want.count)
	}
	if got := utf.Mend(s); got != want.mended {
		t.Errorf("Mend(%x): %x, not %x", s, got, want.mended)
	}
}

// edges are the characters at which a row of the table, or the characters themselves, begin or end, and some between.
func edges() []int {
	return []int{
		0, 1, 0x0a, 0x20, 0x41, 0x7e, 0x7f,
		0x80, 0x81, 0xbf, 0xc0, 0xe9, 0xff, 0x100, 0x7bf, 0x7c0, 0x7fe, 0x7ff,
		0x800, 0x801, 0xfff, 0x1000, 0x20ac, 0xcfff, 0xd000, 0xd7bf, 0xd7fe, 0xd7ff,
		0xe000, 0xe001, 0xefff, 0xf000, 0xfdd0, 0xfeff, 0xfffc, 0xfffd, 0xfffe, 0xffff,
		0x10000, 0x10001, 0x1f600, 0x3ffff, 0x40000, 0xfffff, 0x100000, 0x10fffe, 0x10ffff,
	}
}

// characters are the edges and scattered ones of every length.
func characters() []int {
	all := edges()
	r := lcg(1)
	for _, span := range [][2]int{{0, 0x80}, {0x80, 0x800}, {0x800, 0xd800}, {0xe000, 0x10000}, {0x10000, 0x110000}} {
		for range 50 {
			all = append(all, span[0]+r.below(span[1]-span[0]))
		}
	}
	return all
}

// shards are texts at whose front none stands, or is cut short.
func shards() []string {
	return []string{
		"\x80", "\xbf", "\xc0", "\xc1", "\xc2", "\xc3", "\xdf", "\xe0", "\xe1", "\xed", "\xef", "\xf0", "\xf1", "\xf4", "\xf5", "\xf7", "\xf8", "\xfc", "\xfe", "\xff",
		"\xc0\x80", "\xc1\xbf", "\xc3A", "\xc3\xc3", "\xc3\xff", "\xdf\x7f",
		"\xe0\x80", "\xe0\x9f\xbf", "\xe0\xa0", "\xe2\x82", "\xe2\x82A", "\xe2\x82\xff", "\xe2A\xac", "\xed\x9f", "\xed\xa0\x80", "\xed\xbf\xbf", "\xef\xbf", "\xef\xbf\xc0",
		"\xf0\x80\x80\x80", "\xf0\x8f\xbf\xbf", "\xf0\x90", "\xf0\x9f\x98", "\xf0\x9f\x98A", "\xf0\x9fA\x80", "\xf0A\x98\x80", "\xf4\x8f\xbf", "\xf4\x90\x80\x80", "\xf5\x80\x80\x80", "\xf7\xbf\xbf\xbf",
		"\xf8\x88\x80\x80\x80", "\xfc\x84\x80\x80\x80\x80",
	}
}

// validTexts are scattered texts of characters alone.
func validTexts() []string {
	cs := characters()
	all := []string{"", "\x00", "A", "\u00e9", "\u20ac", "\ufffd", "\U0001f600", "\U0010ffff"}
	r := lcg(3)
	for i := range 300 {
		s := ""
		for range i % 12 {
			s += plainPut(cs[r.below(len(cs))])
		}
		all = append(all, s)
	}
	return all
}

// anyTexts are scattered texts of characters, shards and single bytes, in any order.
func anyTexts() []string {
	cs, bad := characters(), shards()
	all := slices.Concat([]string{""}, bad)
	r := lcg(4)
	for i := range 3000 {
		s := ""
		for range i % 9 {
			switch r.below(4) {
			case 0:
				s += bad[r.below(len(bad))]
			case 1:
				s += string([]byte{byte(r.below(256))})
			default:
				s += plainPut(cs[r.below(len(cs))])
			}
		}
		all = append(all, s)
	}
	return all
}

// P3.1

func TestNextOfTheCharactersBytes(t *testing.T) {
	for _, w := range []struct {
		digits string
		c, n   int
	}{
		{"41 42", 0x41, 1},
		{"00", 0, 1},
		{"7f", 0x7f, 1},
		{"c2 80", 0x80, 2},
		{"c3 a9", 0xe9, 2},
		{"df bf", 0x7ff, 2},
		{"e0 a0 80", 0x800, 3},
		{"e2 82 ac", 0x20ac, 3},
		{"ed 9f bf", 0xd7ff, 3},
		{"ee 80 80", 0xe000, 3},
		{"ef bf bd", 0xfffd, 3},
		{"ef bf bf", 0xffff, 3},
		{"f0 90 80 80", 0x10000, 4},
		{"f0 9f 98 80", 0x1f600, 4},
		{"f4 8f bf bf", 0x10ffff, 4},
	} {
		s := text(t, w.digits)
		wantNext(t, s, w.c, w.n)
		wantNext(t, s+"\x80", w.c, w.n)
		wantNext(t, s+"\xff", w.c, w.n)
		wantNext(t, s+s, w.c, w.n)
	}
}

func TestNextWhereNoneStands(t *testing.T) {
	wantNext(t, "", -1, 0)
	for _, s := range shards() {
		wantNext(t, s, -1, 1)
		wantNext(t, s+"A", -1, 1)
	}
}

func TestNextOfBytesThatBeginNoCharacter(t *testing.T) {
	for b := range 256 {
		if b < 0x80 || 0xc2 <= b && b <= 0xf4 {
			continue
		}
		s := string([]byte{byte(b)})
		for _, behind := range []string{"", "A", "\x80", "\xbf\xbf", "\x80\x80\x80", "\xbf\xbf\xbf\xbf\xbf", "\u00e9", "\xff"} {
			wantNext(t, s+behind, -1, 1)
		}
	}
}

func TestNextOfCharactersThatAreCutShort(t *testing.T) {
	for _, c := range characters() {
		whole := plainPut(c)
		for n := 1; n < len(whole); n++ {
			wantNext(t, whole[:n], -1, 1)
			for b := range 256 {
				if b < 0x80 || b > 0xbf {
					wantNext(t, whole[:n]+string([]byte{byte(b)}), -1, 1)
					wantNext(t, whole[:n]+string([]byte{byte(b)})+whole[n:], -1, 1)
				}
			}
		}
	}
}

func TestNextOfLongerSpellings(t *testing.T) {
	for c := range 0x10000 {
		for n := rowOf(c) + 1; n <= 4; n++ {
			wantNext(t, spelled(c, n), -1, 1)
		}
	}
	for _, c := range edges() {
		wantNext(t, spelled(c, 5), -1, 1)
		wantNext(t, spelled(c, 6), -1, 1)
	}
}

func TestNextOfNumbersThatAreNoCharacters(t *testing.T) {
	for c := 0xd800; c <= 0xdfff; c++ {
		wantNext(t, spelled(c, 3), -1, 1)
		wantNext(t, spelled(c, 4), -1, 1)
	}
	wantNext(t, "\xed\xa0\x81\xed\xb0\x80", -1, 1) // two halves of one character
	for c := 0x110000; c <= 0x1fffff; c++ {
		wantNext(t, spelled(c, 4), -1, 1)
	}
	wantNext(t, spelled(0x200000, 5), -1, 1)
	wantNext(t, spelled(0x7fffffff, 6), -1, 1)
}

func TestNextOfAllShortTexts(t *testing.T) {
	behind := []string{"", "A", "\x7f", "\x80", "\xbf", "\xc0"}
	for first := range 256 {
		wantPlainNext(t, string([]byte{byte(first)}))
		for second := range 256 {
			two := string([]byte{byte(first), byte(second)})
			for _, third := range behind {
				for _, fourth := range behind {
					wantPlainNext(t, two+third+fourth)
				}
			}
		}
	}
}

func TestGoingThroughByHand(t *testing.T) {
	for _, w := range []struct {
		digits string
		fault  int
		count  int
		mended string
	}{
		{"", 0, 0, ""},
		{"41", 1, 1, "41"},
		{"41 42", 2, 2, "41 42"},
		{"00 00", 2, 2, "00 00"},
		{"c3 a9", 2, 1, "c3 a9"},
		{"41 c3 a9", 3, 2, "41 c3 a9"},
		{"ef bf bd", 3, 1, "ef bf bd"},
		{"ef bf bd ff", 3, 2, "ef bf bd ef bf bd"},
		{"f0 9f 98 80 41", 5, 2, "f0 9f 98 80 41"},
		{"c3", 0, 1, "ef bf bd"},
		{"41 c3 a9 ff 41", 3, 4, "41 c3 a9 ef bf bd 41"},
		{"41 ff e2 82", 1, 4, "41 ef bf bd ef bf bd ef bf bd"},
		{"41 e2 82", 1, 3, "41 ef bf bd ef bf bd"},
		{"e2 82", 0, 2, "ef bf bd ef bf bd"},
		{"e2 82 41", 0, 3, "ef bf bd ef bf bd 41"},
		{"e2 c3 a9", 0, 2, "ef bf bd c3 a9"},
		{"f0 9f 98", 0, 3, "ef bf bd ef bf bd ef bf bd"},
		{"f0 9f e2 82 ac", 0, 3, "ef bf bd ef bf bd e2 82 ac"},
		{"c3 a9 a9 41", 2, 3, "c3 a9 ef bf bd 41"},
		{"c0 80", 0, 2, "ef bf bd ef bf bd"},
		{"e0 9f bf", 0, 3, "ef bf bd ef bf bd ef bf bd"},
		{"41 ed a0 80", 1, 4, "41 ef bf bd ef bf bd ef bf bd"},
		{"f4 90 80 80 f4 8f bf bf", 0, 5, "ef bf bd ef bf bd ef bf bd ef bf bd f4 8f bf bf"},
		{"80 41 80 42", 0, 4, "ef bf bd 41 ef bf bd 42"},
		{"41 42 43 ff", 3, 4, "41 42 43 ef bf bd"},
	} {
		wantThrough(t, text(t, w.digits), through{w.fault, w.count, text(t, w.mended)})
	}
}

func TestGoingThroughTheEdges(t *testing.T) {
	for _, c := range characters() {
		whole := plainPut(c)
		wantThrough(t, whole, through{len(whole), 1, whole})
		wantThrough(t, whole+whole, through{2 * len(whole), 2, whole + whole})
		wantThrough(t, whole+"\xff"+whole, through{len(whole), 3, whole + "\ufffd" + whole})
		for n := 1; n < len(whole); n++ {
			mended := strings.Repeat("\ufffd", n)
			wantThrough(t, whole[:n], through{0, n, mended})
			wantThrough(t, "A"+whole[:n], through{1, n + 1, "A" + mended})
			wantThrough(t, whole[:n]+whole, through{0, n + 1, mended + whole})
		}
	}
}

func TestGoingThroughAllShortTexts(t *testing.T) {
	for first := range 256 {
		s := string([]byte{byte(first)})
		wantThrough(t, s, plainThrough(s))
		for second := range 256 {
			s := string([]byte{byte(first), byte(second)})
			wantThrough(t, s, plainThrough(s))
			wantThrough(t, s+"\xbfA", plainThrough(s+"\xbfA"))
		}
	}
}

func TestGoingThroughScatteredTexts(t *testing.T) {
	for _, s := range slices.Concat(validTexts(), anyTexts()) {
		wantPlainNext(t, s)
		wantThrough(t, s, plainThrough(s))
	}
}

func TestGoingThroughLongTexts(t *testing.T) {
	const n = 1 << 18
	for _, w := range []struct {
		piece    string
		count    int
		mended   string
		faultsAt int // of the piece; its length if nowhere
	}{
		{"A", 1, "A", 1},
		{"\u00e9", 1, "\u00e9", 2},
		{"\U0001f600", 1, "\U0001f600", 4},
		{"\xff", 1, "\ufffd", 0},
		{"\xf0\x9f\x98", 3, "\ufffd\ufffd\ufffd", 0},
		{"\u20ac\x80", 2, "\u20ac\ufffd", 3},
	} {
		s := strings.Repeat(w.piece, n)
		fault := w.faultsAt
		if fault == len(w.piece) {
			fault = len(s)
		}
		if utf.Fault(s) != fault || utf.Valid(s) != (fault == len(s)) || utf.Count(s) != n*w.count || utf.Mend(s) != strings.Repeat(w.mended, n) {
			t.Errorf("%x, %d times: Fault %d, Valid %v, Count %d, or Mend is wrong", w.piece, n, utf.Fault(s), utf.Valid(s), utf.Count(s))
		}
		valid := strings.Repeat("\u20ac", n)
		if utf.Fault(valid+s) != len(valid)+fault || utf.Count(valid+s) != n+n*w.count {
			t.Errorf("%x, %d times, behind a long valid text: Fault %d, Count %d", w.piece, n, utf.Fault(valid+s), utf.Count(valid+s))
		}
	}
}

func TestPutByHand(t *testing.T) {
	for _, w := range []struct {
		c      int
		digits string
	}{
		{0, "00"},
		{65, "41"},
		{0x7f, "7f"},
		{0x80, "c2 80"},
		{233, "c3 a9"},
		{0x7ff, "df bf"},
		{0x800, "e0 a0 80"},
		{0x20ac, "e2 82 ac"},
		{0xd7ff, "ed 9f bf"},
		{0xe000, "ee 80 80"},
		{0xfffd, "ef bf bd"},
		{0xffff, "ef bf bf"},
		{0x10000, "f0 90 80 80"},
		{0x1f600, "f0 9f 98 80"},
		{0x10ffff, "f4 8f bf bf"},
	} {
		if s := utf.Put(w.c); s != text(t, w.digits) {
			t.Errorf("Put(%x): %x, not %s", w.c, s, w.digits)
		}
	}
}

func TestPutOfNoCharacter(t *testing.T) {
	for _, c := range []int{
		-1, -2, -0x41, -0x80, -0xe9, math.MinInt32, math.MinInt32 - 1, math.MinInt, math.MinInt + 0x41,
		0xd800, 0xd801, 0xdbff, 0xdc00, 0xdfff,
		0x110000, 0x110001, 0x1fffff, 0x200000, math.MaxInt32, math.MaxInt32 + 1, math.MaxUint32, math.MaxInt,
		1<<32 + 0x41, 1<<32 + 0xfffd, 1<<40 + 0x20ac, -1<<32 + 0x41, -1<<32 + 0x10ffff, 1<<62 + 0x41,
	} {
		if s := utf.Put(c); s != "" {
			t.Errorf("Put(%x): %x", c, s)
		}
	}
}

func TestPutOfAllNumbers(t *testing.T) {
	for c := -0x10000; c < 0x220000; c++ {
		if s := utf.Put(c); s != plainPut(c) {
			t.Errorf("Put(%x): %x, not %x", c, s, plainPut(c))
		}
	}
}

// P3.2

func TestNextOfWhatPutMade(t *testing.T) {
	for c := range 0x110000 {
		if isCharacter(c) {
			s := utf.Put(c)
			wantNext(t, s, c, len(s))
			wantNext(t, s+"\xbf", c, len(s))
		}
	}
	for _, c := range characters() {
		s := utf.Put(c)
		for _, behind := range slices.Concat(validTexts(), shards()) {
			wantNext(t, s+behind, c, len(s))
		}
	}
}

func TestWhatNextTakesIsPutOfTheCharacter(t *testing.T) {
	taken := 0
	for _, s := range slices.Concat(validTexts(), anyTexts()) {
		for at := 0; at < len(s); {
			c, n := utf.Next(s[at:])
			if n < 1 || n > len(s)-at {
				t.Fatalf("Next(%x): %x, %d", s[at:], c, n)
			}
			if c >= 0 {
				taken++
				if utf.Put(c) != s[at:at+n] {
					t.Errorf("Next(%x): %x, %d, and its bytes are %x", s[at:], c, n, utf.Put(c))
				}
			}
			at += n
		}
	}
	if taken < 1000 {
		t.Errorf("only %d characters were taken", taken)
	}
}

// P3.3

func TestPuttingTogether(t *testing.T) {
	for _, front := range validTexts() {
		for _, behind := range slices.Concat(shards(), anyTexts()[:200]) {
			both := front + behind
			if got := utf.Fault(both); got != len(front)+utf.Fault(behind) {
				t.Errorf("Fault(%x): %d, and Fault(%x) is %d", both, got, behind, utf.Fault(behind))
			}
			if got := utf.Count(both); got != utf.Count(front)+utf.Count(behind) {
				t.Errorf("Count(%x): %d, and of its parts, %x ahead, %d and %d", both, got, front, utf.Count(front), utf.Count(behind))
			}
		}
	}
}

func TestTwoValidTextsAreValidTogether(t *testing.T) {
	all := validTexts()
	for _, front := range all {
		for _, behind := range all {
			if !utf.Valid(front + behind) {
				t.Errorf("%x isn't valid, and is %x and %x", front+behind, front, behind)
			}
		}
	}
}

// P3.4

func TestWhatIsMendedIsValidAndAsLong(t *testing.T) {
	for _, s := range slices.Concat(shards(), anyTexts(), validTexts()) {
		mended := utf.Mend(s)
		if !utf.Valid(mended) || utf.Fault(mended) != len(mended) {
			t.Errorf("Mend(%x): %x, and that isn't valid", s, mended)
		}
		if utf.Count(mended) != utf.Count(s) {
			t.Errorf("Mend(%x): %x, and their Counts are %d and %d", s, mended, utf.Count(s), utf.Count(mended))
		}
		if again := utf.Mend(mended); again != mended {
			t.Errorf("Mend(%x): %x", mended, again)
		}
	}
}

func TestMendLeavesValidTexts(t *testing.T) {
	for _, s := range validTexts() {
		if got := utf.Mend(s); got != s {
			t.Errorf("Mend(%x): %x", s, got)
		}
	}
	for c := range 0x110000 {
		if isCharacter(c) && utf.Mend(plainPut(c)) != plainPut(c) {
			t.Errorf("Mend of the bytes of %x: %x", c, utf.Mend(plainPut(c)))
		}
	}
}
