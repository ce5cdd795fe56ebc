package lex_test

import (
	"math/big"
	"regexp"
	"slices"
	"strconv"
	"strings"
	"testing"
	"unsafe"

	"stratum/api"
	"stratum/lex"
)

// The calls as the chapter tells them, by patterns and numbers without a bound; and what the tests look.

// lcg is a row of numbers that is the same in every run.
type lcg uint64

func (r *lcg) below(n int) int {
	*r = *r*6364136223846793005 + 1442695040888963407
	return int(uint64(*r) >> 33 % uint64(n))
}

// bytesOf is a text of n bytes, each of which is one of letters.
func (r *lcg) bytesOf(letters string, n int) string {
	b := make([]byte, n)
	for i := range b {
		b[i] = letters[r.below(len(letters))]
	}
	return string(b)
}

// oneOf is one of the texts.
func (r *lcg) oneOf(texts []string) string {
	return texts[r.below(len(texts))]
}

// show is a text's front, for what a test tells.
func show(s string) string {
	if len(s) > 40 {
		return strconv.QuoteToASCII(s[:40]) + ".. (" + strconv.Itoa(len(s)) + " bytes)"
	}
	return strconv.QuoteToASCII(s)
}

// allBytes is every byte once, rising.
func allBytes() string {
	var b []byte
	for c := range 256 {
		b = append(b, byte(c))
	}
	return string(b)
}

const (
	letters = "abcdefghijklmnopqrstuvwxyzABCDEFGHIJKLMNOPQRSTUVWXYZ_"
	digits  = "0123456789"
	marks   = "{}():;,=+-*"
	blanks  = " \t\n\r"
)

var (
	letBy    = regexp.MustCompile(`^(?:[ \t\n\r]|#[^\n]*)*`)
	aName    = regexp.MustCompile(`^[a-zA-Z_][a-zA-Z_0-9]*`)
	aNumber  = regexp.MustCompile(`^[0-9]+`)
	textHead = regexp.MustCompile(`^"(?:[^"\\\n]|\\[\\"nt]|\\x[0-9a-fA-F][0-9a-fA-F])*`)
	anEscape = regexp.MustCompile(`\\(?:[\\"nt]|x..)`)
	aMark    = regexp.MustCompile(`^[{}():;,=+*-]`)
)

// latin is a text with a character for each byte: a pattern takes bytes that are no UTF-8 for one character.
func latin(s string) string {
	var out []rune
	for i := range len(s) {
		out = append(out, rune(s[i]))
	}
	return string(out)
}

// bytesBack is the text of which latin made s.
func bytesBack(s string) string {
	var out []byte
	for _, c := range s {
		out = append(out, byte(c))
	}
	return string(out)
}

// headOf is how many bytes of s the pattern takes at its front.
func headOf(pattern *regexp.Regexp, s string) int {
	return len([]rune(pattern.FindString(latin(s))))
}

func unescape(body string) string {
	return bytesBack(anEscape.ReplaceAllStringFunc(latin(body), func(e string) string {
		switch e[1] {
		case 'n':
			return "\n"
		case 't':
			return "\t"
		case 'x':
			n, _ := strconv.ParseUint(e[2:], 16, 8)
			return string(rune(n))
		}
		return e[1:]
	}))
}

// plainText is the text at the front of s: its bytes, how many it takes, or the place of its fault.
func plainText(s string) (string, int, int, api.Errno) {
	end := headOf(textHead, s)
	switch {
	case end == len(s) || s[end] == '\n':
		return "", 0, 0, api.ErrQuote
	case s[end] == '\\':
		return "", 0, end, api.ErrEscape
	}
	return unescape(s[1:end]), end + 1, 0, api.OK
}

// plainNext is the token at the front of s, or the place of its fault.
func plainNext(s string) (api.Token, int, api.Errno) {
	if n := headOf(aName, s); n > 64 {
		return api.Token{}, 0, api.ErrValue
	} else if n > 0 {
		return api.Token{Kind: api.TokName, Text: s[:n], End: n}, 0, api.OK
	}
	if n := headOf(aNumber, s); n > 0 {
		x, _ := new(big.Int).SetString(s[:n], 10)
		if !x.IsUint64() {
			return api.Token{}, 0, api.ErrValue
		}
		return api.Token{Kind: api.TokNumber, Num: x.Uint64(), End: n}, 0, api.OK
	}
	if n := headOf(aMark, s); n > 0 {
		return api.Token{Kind: api.TokMark, Text: s[:n], End: n}, 0, api.OK
	}
	if s[0] == '"' {
		stands, n, fault, err := plainText(s)
		if err != api.OK {
			return api.Token{}, fault, err
		}
		return api.Token{Kind: api.TokText, Text: stands, End: n}, 0, api.OK
	}
	return api.Token{}, 0, api.ErrByte
}

func plainLex(s string) ([]api.Token, int, api.Errno) {
	if len(s) > 1048576 {
		return nil, 0, api.ErrLong
	}
	var out []api.Token
	for at := headOf(letBy, s); at < len(s); at += headOf(letBy, s[at:]) {
		t, fault, err := plainNext(s[at:])
		if err != api.OK {
			return nil, at + fault, err
		}
		t.At, t.End = at, at+t.End
		out = append(out, t)
		at = t.End
	}
	return append(out, api.Token{At: len(s), End: len(s)}), 0, api.OK
}

// plainQuote writes each byte by a list of all.
func plainQuote(s string) string {
	out := []string{`"`}
	for i := range len(s) {
		c := s[i]
		plain := " !#$%&'()*+,-./0123456789:;<=>?@ABCDEFGHIJKLMNOPQRSTUVWXYZ[]^_`abcdefghijklmnopqrstuvwxyz{|}~"
		switch {
		case strings.IndexByte(plain, c) >= 0:
			out = append(out, s[i:i+1])
		case c == '\n':
			out = append(out, `\n`)
		case c == '\t':
			out = append(out, `\t`)
		case c == '"' || c == '\\':
			out = append(out, `\`, s[i:i+1])
		default:
			two := strconv.FormatUint(uint64(c)+256, 16)
			out = append(out, `\x`, two[1:])
		}
	}
	return strings.Join(append(out, `"`), "")
}

// The tokens, without their places.

func nameTok(s string) api.Token     { return api.Token{Kind: api.TokName, Text: s} }
func numTok(n uint64) api.Token      { return api.Token{Kind: api.TokNumber, Num: n} }
func textTok(s string) api.Token     { return api.Token{Kind: api.TokText, Text: s} }
func markTok(s string) api.Token     { return api.Token{Kind: api.TokMark, Text: s} }
func endTok(length int) api.Token    { return at(length, length, api.Token{Kind: api.TokEnd}) }
func unplaced(t api.Token) api.Token { return at(0, 0, t) }

// at is a token at its place.
func at(from int, to int, t api.Token) api.Token {
	t.At, t.End = from, to
	return t
}

// withoutPlaces is the tokens but for their places.
func withoutPlaces(l []api.Token) []api.Token {
	var out []api.Token
	for _, t := range l {
		out = append(out, unplaced(t))
	}
	return out
}

// wantTokens looks that Lex answers just these tokens.
func wantTokens(t *testing.T, s string, want ...api.Token) {
	t.Helper()
	got, place, err := lex.Lex(s)
	if err != api.OK || place != 0 {
		t.Errorf("Lex(%s): %d at %d", show(s), err, place)
		return
	}
	wantSame(t, s, got, want)
}

// wantSame looks whether these are those.
func wantSame(t *testing.T, s string, got []api.Token, want []api.Token) {
	t.Helper()
	if len(got) != len(want) {
		t.Errorf("Lex(%s): %d tokens, not %d", show(s), len(got), len(want))
		return
	}
	for i := range got {
		if got[i] != want[i] {
			t.Errorf("Lex(%s): token %d is %+v, not %+v", show(s), i, got[i], want[i])
			return
		}
	}
}

// wantOne looks that Lex answers of s this one token, from its first byte to its last, and the end.
func wantOne(t *testing.T, s string, want api.Token) {
	t.Helper()
	wantTokens(t, s, at(0, len(s), want), endTok(len(s)))
}

// wantFault looks that Lex answers this fault at this place, and no tokens.
func wantFault(t *testing.T, s string, place int, err api.Errno) {
	t.Helper()
	got, gotPlace, gotErr := lex.Lex(s)
	if len(got) != 0 || gotPlace != place || gotErr != err {
		t.Errorf("Lex(%s): %d tokens, %d at %d, not %d at %d", show(s), len(got), gotErr, gotPlace, err, place)
	}
}

// wantPlain looks whether Lex and Name answer as the plain ones, and that the tokens stand apart.
func wantPlain(t *testing.T, s string) {
	t.Helper()
	want, place, err := plainLex(s)
	if err != api.OK {
		wantFault(t, s, place, err)
	} else {
		wantTokens(t, s, want...)
		wantApart(t, s, want)
	}
	isName := len(want) == 2 && want[0].Kind == api.TokName && want[0].At == 0 && want[0].End == len(s)
	if lex.Name(s) != isName {
		t.Errorf("Name(%s): %v", show(s), !isName)
	}
}

// wantApart looks at the tokens of s: places that rise, blanks and remarks alone between them, and each by itself the same.
func wantApart(t *testing.T, s string, tokens []api.Token) {
	t.Helper()
	end := 0
	for i, k := range tokens {
		last := i == len(tokens)-1
		if k.At < end || k.End < k.At || !last && k.End == k.At || k.End > len(s) {
			t.Errorf("Lex(%s): %+v stands behind %d", show(s), k, end)
			return
		}
		if between := s[end:k.At]; headOf(letBy, between) != len(between) {
			t.Errorf("Lex(%s): %s is let by", show(s), show(between))
		}
		if !last {
			wantOne(t, s[k.At:k.End], unplaced(k))
		}
		end = k.End
	}
	if last := tokens[len(tokens)-1]; last != endTok(len(s)) {
		t.Errorf("Lex(%s): the end is %+v", show(s), last)
	}
}

// wantThrough looks that stuffing put between the tokens of s, ahead of them and behind them, changes places alone.
func wantThrough(t *testing.T, s string, stuff func() string) {
	t.Helper()
	tokens, _, err := lex.Lex(s)
	if err != api.OK {
		t.Errorf("Lex(%s): %d", show(s), err)
		return
	}
	var want []api.Token
	var out strings.Builder
	end := 0
	for _, k := range tokens {
		out.WriteString(s[end:k.At])
		out.WriteString(stuff())
		moved := at(out.Len(), out.Len()+k.End-k.At, k)
		out.WriteString(s[k.At:k.End])
		end = k.End
		want = append(want, moved)
	}
	out.WriteString(stuff())
	want[len(want)-1] = endTok(out.Len())
	wantTokens(t, out.String(), want...)
}

// wantQuote looks at Quote of s: as the plain one, and read again.
func wantQuote(t *testing.T, s string) {
	t.Helper()
	got := lex.Quote(s)
	if want := plainQuote(s); got != want {
		t.Errorf("Quote(%s): %s, not %s", show(s), show(got), show(want))
		return
	}
	if len(got) > api.MaxText {
		wantFault(t, got, 0, api.ErrLong)
		return
	}
	wantOne(t, got, textTok(s))
}

// share: whether two texts have bytes in common.
func share(a string, b string) bool {
	if a == "" || b == "" {
		return false
	}
	first, second := uintptr(unsafe.Pointer(unsafe.StringData(a))), uintptr(unsafe.Pointer(unsafe.StringData(b)))
	return first < second+uintptr(len(b)) && second < first+uintptr(len(a))
}

// everyText gives all texts of at most n of these pieces.
func everyText(pieces []string, n int, give func(string)) {
	for i, all := 0, []string{""}; ; i++ {
		for _, s := range all {
			give(s)
		}
		if i == n {
			return
		}
		var longer []string
		for _, s := range all {
			for _, p := range pieces {
				longer = append(longer, s+p)
			}
		}
		all = slices.Clip(longer)
	}
}
