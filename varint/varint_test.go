package varint_test

import (
	"bytes"
	"encoding/hex"
	"math"
	"math/big"
	"slices"
	"strings"
	"testing"

	"stratum/api"
	"stratum/varint"
)

// row is the bytes that a text of hex digits tells.
func row(t *testing.T, text string) []byte {
	t.Helper()
	b, err := hex.DecodeString(text)
	if err != nil {
		t.Fatal(err)
	}
	return b
}

// lcg is a row of numbers that is the same in every run.
type lcg uint64

func (r *lcg) next() uint64 {
	*r = *r*6364136223846793005 + 1442695040888963407
	x := uint64(*r)
	return x ^ x>>29
}

// sample holds the numbers at which something could turn, and scattered ones of every length in bits; rising.
func sample() []uint64 {
	xs := []uint64{0, 1, 2, 127, 128, 129, 255, 256, 300, math.MaxUint64 - 1, math.MaxUint64}
	r := lcg(1)
	for k := range 64 {
		p := uint64(1) << k
		xs = append(xs, p-1, p, p+1)
		for range 4 {
			xs = append(xs, r.next()>>k)
		}
	}
	slices.Sort(xs)
	return slices.Compact(xs)
}

// plainRow is a number's bytes as the chapter tells them, by division.
func plainRow(x uint64) []byte {
	groups := []byte{byte(x % 128)}
	for x /= 128; x > 0; x /= 128 {
		groups[len(groups)-1] += 128
		groups = append(groups, byte(x%128))
	}
	return groups
}

// plainTake is Take as the chapter tells it, with numbers that have no end.
func plainTake(b []byte) (uint64, int, api.Errno) {
	sum := new(big.Int)
	for i, c := range b {
		if c == 0 && i > 0 {
			return 0, 0, api.ErrMalformed
		}
		if i == 9 && c != 1 {
			return 0, 0, api.ErrMalformed
		}
		group := new(big.Int).SetInt64(int64(c % 128))
		sum.Add(sum, group.Lsh(group, uint(7*i)))
		if c < 128 {
			return sum.Uint64(), i + 1, api.OK
		}
	}
	return 0, 0, api.ErrShort
}

// wantTake looks what Take answers of b.
func wantTake(t *testing.T, b []byte, x uint64, n int, err api.Errno) {
	t.Helper()
	if gx, gn, ge := varint.Take(b); gx != x || gn != n || ge != err {
		t.Errorf("Take(%x): %d, %d, %d, not %d, %d, %d", b, gx, gn, ge, x, n, err)
	}
}

// written are numbers with their bytes, told by hand.
func written() []struct {
	x    uint64
	text string
} {
	return []struct {
		x    uint64
		text string
	}{
		{0, "00"},
		{1, "01"},
		{127, "7f"},
		{128, "8001"},
		{129, "8101"},
		{255, "ff01"},
		{256, "8002"},
		{300, "ac02"},
		{16383, "ff7f"},
		{16384, "808001"},
		{2097151, "ffff7f"},
		{2097152, "80808001"},
		{math.MaxUint32, "ffffffff0f"},
		{1 << 35, "808080808001"},
		{1<<56 - 1, strings.Repeat("ff", 7) + "7f"},
		{1 << 56, strings.Repeat("80", 8) + "01"},
		{math.MaxInt64, strings.Repeat("ff", 8) + "7f"},
		{1 << 63, strings.Repeat("80", 9) + "01"},
		{1<<63 + 1, "81" + strings.Repeat("80", 8) + "01"},
		{math.MaxUint64, strings.Repeat("ff", 9) + "01"},
	}
}

// P2.1

func TestPutWritesTheGroups(t *testing.T) {
	for _, w := range written() {
		if b := varint.Put(nil, w.x); hex.EncodeToString(b) != w.text {
			t.Errorf("Put(nil, %d): %x, not %s", w.x, b, w.text)
		}
	}
	for _, x := range sample() {
		if b := varint.Put([]byte{}, x); !bytes.Equal(b, plainRow(x)) {
			t.Errorf("Put([], %d): %x, not %x", x, b, plainRow(x))
		}
	}
}

func TestPutStandsBehindTheBytes(t *testing.T) {
	for _, front := range []string{"", "aa", "00", "80", "ffffff", strings.Repeat("80", 12), strings.Repeat("07", 1000)} {
		for _, w := range written() {
			if b := varint.Put(row(t, front), w.x); hex.EncodeToString(b) != front+w.text {
				t.Errorf("Put(%s, %d): %x, not %s", front, w.x, b, front+w.text)
			}
		}
	}
}

func TestPutOfManyInARow(t *testing.T) {
	var b, want []byte
	for _, x := range sample() {
		b = varint.Put(b, x)
		want = append(want, plainRow(x)...)
	}
	if !bytes.Equal(b, want) {
		t.Errorf("Put behind Put: %x, not %x", b, want)
	}
}

func TestSize(t *testing.T) {
	for _, w := range written() {
		if n := varint.Size(w.x); n != len(w.text)/2 {
			t.Errorf("Size(%d): %d, not %d", w.x, n, len(w.text)/2)
		}
	}
	for n := 1; n <= 9; n++ {
		next := uint64(1) << (7 * n)
		if varint.Size(next-1) != n || varint.Size(next) != n+1 {
			t.Errorf("Size around 2^%d: %d, %d, not %d, %d", 7*n, varint.Size(next-1), varint.Size(next), n, n+1)
		}
	}
	if n := varint.Size(math.MaxUint64); n != 10 {
		t.Errorf("Size(2^64 - 1): %d, not 10", n)
	}
}

func TestTakeAnswersTheNumberAtTheFront(t *testing.T) {
	for _, w := range written() {
		wantTake(t, row(t, w.text), w.x, len(w.text)/2, api.OK)
	}
	wantTake(t, row(t, "ac0207"), 300, 2, api.OK)
	wantTake(t, row(t, "0000"), 0, 1, api.OK)
	wantTake(t, row(t, "0080"), 0, 1, api.OK)
	wantTake(t, row(t, strings.Repeat("ff", 9)+"01"+"ff"), math.MaxUint64, 10, api.OK)
}

func TestTakeOfBytesThatEndTooEarly(t *testing.T) {
	wantTake(t, nil, 0, 0, api.ErrShort)
	wantTake(t, []byte{}, 0, 0, api.ErrShort)
	for n := 1; n <= 9; n++ {
		wantTake(t, bytes.Repeat([]byte{0x80}, n), 0, 0, api.ErrShort)
		wantTake(t, bytes.Repeat([]byte{0x81}, n), 0, 0, api.ErrShort)
		wantTake(t, bytes.Repeat([]byte{0xff}, n), 0, 0, api.ErrShort)
	}
	for _, x := range sample() {
		whole := varint.Put(nil, x)
		for n := range len(whole) {
			wantTake(t, whole[:n], 0, 0, api.ErrShort)
		}
	}
}

func TestTakeEndsWhereItsListEnds(t *testing.T) {
	b := row(t, "ac02")
	wantTake(t, b[:1], 0, 0, api.ErrShort)
	wantTake(t, b[:0], 0, 0, api.ErrShort)
}

func TestTakeOfAZeroBehindOthers(t *testing.T) {
	for _, c := range []byte{0x80, 0x81, 0xff} {
		for n := 1; n <= 9; n++ {
			b := append(bytes.Repeat([]byte{c}, n), 0)
			wantTake(t, b, 0, 0, api.ErrMalformed)
			wantTake(t, append(b, 1), 0, 0, api.ErrMalformed)
			wantTake(t, append(b, 0x80, 0x80), 0, 0, api.ErrMalformed)
		}
	}
}

func TestTakeOfATenthByte(t *testing.T) {
	for _, c := range []byte{0x80, 0xff} {
		nine := bytes.Repeat([]byte{c}, 9)
		for tenth := range 256 {
			b := append(slices.Clone(nine), byte(tenth))
			if tenth == 1 {
				x, n, err := plainTake(b)
				wantTake(t, b, x, n, err)
				wantTake(t, append(b, 0), x, 10, api.OK)
				continue
			}
			wantTake(t, b, 0, 0, api.ErrMalformed)
			wantTake(t, append(b, 1), 0, 0, api.ErrMalformed)
			wantTake(t, append(b, 0x80, 0), 0, 0, api.ErrMalformed)
		}
	}
}

func TestTakeOfAllShortRows(t *testing.T) {
	for first := range 256 {
		b := []byte{byte(first)}
		x, n, err := plainTake(b)
		wantTake(t, b, x, n, err)
		for second := range 256 {
			b := []byte{byte(first), byte(second)}
			x, n, err := plainTake(b)
			wantTake(t, b, x, n, err)
			for _, third := range []byte{0, 1, 2, 0x7f, 0x80, 0x81, 0xff} {
				b := []byte{byte(first), byte(second), third}
				x, n, err := plainTake(b)
				wantTake(t, b, x, n, err)
			}
		}
	}
}

// scattered are rows of bytes of every length to 13, most of which go on for long.
func scattered() [][]byte {
	var all [][]byte
	r := lcg(2)
	for i := range 20000 {
		b := make([]byte, i%14)
		for j := range b {
			switch b[j] = byte(r.next()); {
			case r.next()%8 > 0:
				b[j] |= 0x80
			case r.next()%4 == 0:
				b[j] = byte(r.next() % 3)
			}
		}
		all = append(all, b)
	}
	return all
}

func TestTakeOfScatteredRows(t *testing.T) {
	for _, b := range scattered() {
		x, n, err := plainTake(b)
		wantTake(t, b, x, n, err)
	}
}

// P2.2

func TestTakeOfWhatPutMade(t *testing.T) {
	for _, x := range sample() {
		own := varint.Put(nil, x)
		for _, behind := range []string{"", "00", "01", "7f", "80", "8000", "ff", strings.Repeat("ff", 20)} {
			wantTake(t, append(slices.Clone(own), row(t, behind)...), x, varint.Size(x), api.OK)
		}
	}
}

func TestWhatIsTakenAreTheBytesOfTheNumber(t *testing.T) {
	taken := 0
	for _, b := range scattered() {
		x, n, err := varint.Take(b)
		if err != api.OK {
			continue
		}
		taken++
		if !bytes.Equal(varint.Put(nil, x), b[:n]) || n != varint.Size(x) {
			t.Errorf("Take(%x): %d, %d, and its bytes are %x", b, x, n, varint.Put(nil, x))
		}
	}
	if taken < 1000 {
		t.Errorf("only %d of the rows began with a number", taken)
	}
}

func TestTakeOfManyInARow(t *testing.T) {
	var b []byte
	for _, x := range sample() {
		b = varint.Put(b, x)
	}
	for _, x := range sample() {
		got, n, err := varint.Take(b)
		if got != x || err != api.OK {
			t.Fatalf("Take: %d, %d, not %d", got, err, x)
		}
		b = b[n:]
	}
	wantTake(t, b, 0, 0, api.ErrShort)
}

// P2.3

// signed is the sample as numbers with a sign, and their negatives.
func signed() []int64 {
	xs := []int64{math.MinInt64, math.MinInt64 + 1, math.MaxInt64 - 1, math.MaxInt64}
	for _, x := range sample() {
		xs = append(xs, int64(x), -int64(x))
	}
	slices.Sort(xs)
	return slices.Compact(xs)
}

// plainZig is Zig as the chapter tells it, with numbers that have no end.
func plainZig(x int64) uint64 {
	y := new(big.Int).Mul(big.NewInt(x), big.NewInt(2))
	if x < 0 {
		y.Sub(y.Neg(y), big.NewInt(1))
	}
	return y.Uint64()
}

func TestZigAndZagByHand(t *testing.T) {
	for _, w := range []struct {
		x int64
		y uint64
	}{
		{0, 0},
		{-1, 1},
		{1, 2},
		{-2, 3},
		{2, 4},
		{-64, 127},
		{64, 128},
		{math.MinInt32, math.MaxUint32},
		{math.MaxInt32, math.MaxUint32 - 1},
		{math.MinInt64, math.MaxUint64},
		{math.MinInt64 + 1, math.MaxUint64 - 2},
		{math.MaxInt64, math.MaxUint64 - 1},
		{math.MaxInt64 - 1, math.MaxUint64 - 3},
	} {
		if y := varint.Zig(w.x); y != w.y {
			t.Errorf("Zig(%d): %d, not %d", w.x, y, w.y)
		}
		if x := varint.Zag(w.y); x != w.x {
			t.Errorf("Zag(%d): %d, not %d", w.y, x, w.x)
		}
	}
}

func TestZigIsTwiceTheNumber(t *testing.T) {
	for _, x := range signed() {
		if y := varint.Zig(x); y != plainZig(x) {
			t.Errorf("Zig(%d): %d, not %d", x, y, plainZig(x))
		}
	}
}

func TestZigAndZagThereAndBack(t *testing.T) {
	for _, x := range signed() {
		if back := varint.Zag(varint.Zig(x)); back != x {
			t.Errorf("Zag(Zig(%d)): %d", x, back)
		}
	}
	for _, y := range sample() {
		if back := varint.Zig(varint.Zag(y)); back != y {
			t.Errorf("Zig(Zag(%d)): %d", y, back)
		}
	}
}

// magnitude is a number without its sign; 2^63 for the least one.
func magnitude(x int64) uint64 {
	if x < 0 {
		return -uint64(x)
	}
	return uint64(x)
}

func TestTheLesserMagnitudeHasTheLesserZig(t *testing.T) {
	xs := signed()
	for _, x := range xs {
		for _, y := range xs {
			if magnitude(x) < magnitude(y) && varint.Zig(x) >= varint.Zig(y) {
				t.Errorf("Zig(%d) is %d, Zig(%d) is %d", x, varint.Zig(x), y, varint.Zig(y))
			}
		}
	}
}

// P2.4

func TestAGreaterNumberHasNoFewerBytes(t *testing.T) {
	before := 1
	for _, x := range sample() {
		n := len(varint.Put(nil, x))
		if n < before || n < 1 || n > 10 {
			t.Errorf("%d has %d bytes, a lesser number has %d", x, n, before)
		}
		if varint.Size(x) != n {
			t.Errorf("Size(%d): %d, and it has %d bytes", x, varint.Size(x), n)
		}
		before = n
	}
}

// P2.5

// roomy is a list of n bytes with spare room that is written full.
func roomy(n int, spare int) []byte {
	all := bytes.Repeat([]byte{0xa5}, n+spare)
	return all[:n]
}

func TestPutAndTakeLeaveTheListAsItWas(t *testing.T) {
	for _, n := range []int{0, 1, 3, 64} {
		for _, spare := range []int{0, 1, 2, 10, 100} {
			for _, x := range []uint64{0, 127, 128, 1 << 63, math.MaxUint64} {
				b := roomy(n, spare)
				varint.Put(b, x)
				varint.Take(b)
				if len(b) != n || !bytes.Equal(b[:cap(b)], roomy(n+spare, 0)) {
					t.Errorf("a list of %d bytes with room for %d is %x behind Put of %d", n, spare, b[:cap(b)], x)
				}
			}
		}
	}
}

func TestWhatPutAnswersIsNewMemory(t *testing.T) {
	for _, n := range []int{0, 1, 3, 64} {
		for _, spare := range []int{0, 1, 10, 100} {
			b := roomy(n, spare)
			first := varint.Put(b, 300)
			second := varint.Put(b, 5)
			overwrite(first[:cap(first)])
			if !bytes.Equal(b[:cap(b)], roomy(n+spare, 0)) {
				t.Errorf("what Put answered shares memory with its list of %d bytes, room for %d", n, spare)
			}
			if !bytes.Equal(second, append(roomy(n, 0), 5)) {
				t.Errorf("two answers of Put share memory: %x", second)
			}
			overwrite(b[:cap(b)])
			if !bytes.Equal(second, append(roomy(n, 0), 5)) {
				t.Errorf("Put kept its list: %x", second)
			}
		}
	}
}

func overwrite(b []byte) {
	for i := range b {
		b[i] = 0x3c
	}
}
