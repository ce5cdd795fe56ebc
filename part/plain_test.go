package part_test

import (
	"encoding/hex"
	"math/big"
	"strconv"
	"testing"
	"unsafe"

	"stratum/api"
	"stratum/part"
)

// The calls as the chapter tells them, byte by byte and without the library's search; and what the tests look.

// lcg is a row of numbers that is the same in every run.
type lcg uint64

func (r *lcg) below(n int) int {
	*r = *r*6364136223846793005 + 1442695040888963407
	return int(uint64(*r) >> 33 % uint64(n))
}

// bytesOf is a text of n bytes, each of which is one of letters.
func (r *lcg) bytesOf(letters string, n int) string {
	b := make([]byte, n)
	for i := range b {
		b[i] = letters[r.below(len(letters))]
	}
	return string(b)
}

// show is a text's front, for what a test tells.
func show(s string) string {
	if len(s) > 40 {
		return strconv.QuoteToASCII(s[:40]) + ".. (" + strconv.Itoa(len(s)) + " bytes)"
	}
	return strconv.QuoteToASCII(s)
}

// allBytes is every byte once, rising.
func allBytes() string {
	var b []byte
	for c := range 256 {
		b = append(b, byte(c))
	}
	return string(b)
}

// standsAt: whether sep stands in s at this place.
func standsAt(s string, at int, sep string) bool {
	if len(s)-at < len(sep) {
		return false
	}
	for i := range len(sep) {
		if s[at+i] != sep[i] {
			return false
		}
	}
	return true
}

func plainIndex(s string, sep string) int {
	for at := range len(s) {
		if len(sep) > 0 && standsAt(s, at, sep) {
			return at
		}
	}
	return -1
}

// plainCut is Index, Head and Tail.
func plainCut(s string, sep string) (int, string, string) {
	at := plainIndex(s, sep)
	if at < 0 {
		return at, s, ""
	}
	return at, s[:at], s[at+len(sep):]
}

// plainRep reckons the length without a bound.
func plainRep(s string, n uint64) (string, api.Errno) {
	length := new(big.Int).SetUint64(n)
	length.Mul(length, big.NewInt(int64(len(s))))
	if length.Cmp(big.NewInt(api.MaxValue)) > 0 {
		return "", api.ErrLong
	}
	var out []byte
	for uint64(len(out)) < length.Uint64() {
		out = append(out, s...)
	}
	return string(out), api.OK
}

func plainHex(s string) (string, api.Errno) {
	out, err := hex.DecodeString(s)
	if err != nil {
		return "", api.ErrValue
	}
	return string(out), api.OK
}

// wantCut looks what Index, Head and Tail answer, and that the pieces make the text.
func wantCut(t *testing.T, s string, sep string, at int, head string, tail string) {
	t.Helper()
	if got := part.Index(s, sep); got != at {
		t.Errorf("Index(%s, %s): %d, not %d", show(s), show(sep), got, at)
	}
	gotHead, gotTail := part.Head(s, sep), part.Tail(s, sep)
	if gotHead != head {
		t.Errorf("Head(%s, %s): %s, not %s", show(s), show(sep), show(gotHead), show(head))
	}
	if gotTail != tail {
		t.Errorf("Tail(%s, %s): %s, not %s", show(s), show(sep), show(gotTail), show(tail))
	}
	if at >= 0 && (gotHead+sep+gotTail != s || part.Join(gotHead, sep, gotTail) != s) {
		t.Errorf("%s at %s: the pieces don't make the text", show(s), show(sep))
	}
}

// wantPlainCut looks whether they answer as the plain ones.
func wantPlainCut(t *testing.T, s string, sep string) {
	t.Helper()
	at, head, tail := plainCut(s, sep)
	wantCut(t, s, sep, at, head, tail)
}

// wantRep looks whether Rep answers as the plain one.
func wantRep(t *testing.T, s string, n uint64) {
	t.Helper()
	want, wantErr := plainRep(s, n)
	if got, err := part.Rep(s, n); got != want || err != wantErr {
		t.Errorf("Rep(%s, %d): %s, %d, not %s, %d", show(s), n, show(got), err, show(want), wantErr)
	}
}

// wantHex looks what Hex answers of digits.
func wantHex(t *testing.T, s string, want string) {
	t.Helper()
	if got, err := part.Hex(s); got != want || err != api.OK {
		t.Errorf("Hex(%s): %s, %d, not %s", show(s), show(got), err, show(want))
	}
}

// wantNoHex looks that Hex refuses what isn't digits.
func wantNoHex(t *testing.T, s string) {
	t.Helper()
	if got, err := part.Hex(s); got != "" || err != api.ErrValue {
		t.Errorf("Hex(%s): %s, %d, not %d", show(s), show(got), err, api.ErrValue)
	}
}

// share: whether two texts have bytes in common.
func share(a string, b string) bool {
	if a == "" || b == "" {
		return false
	}
	first, second := uintptr(unsafe.Pointer(unsafe.StringData(a))), uintptr(unsafe.Pointer(unsafe.StringData(b)))
	return first < second+uintptr(len(b)) && second < first+uintptr(len(a))
}
