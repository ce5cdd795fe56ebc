package tlv_test

import (
	"bytes"
	"encoding/hex"
	"slices"
	"strings"
	"sync"
	"testing"

	"stratum/api"
	"stratum/kind"
	"stratum/tlv"
)

// wantBytes looks what Check, Encode and Size answer of a record.
func wantBytes(t *testing.T, rec []api.Field, want []byte) {
	t.Helper()
	if at, err := tlv.Check(rec); at != 0 || err != api.OK {
		t.Errorf("Check(%s): %d, %d", show(rec), at, err)
	}
	if b, err := tlv.Encode(rec); !bytes.Equal(b, want) || err != api.OK {
		t.Errorf("Encode(%s): %s, %d, not %s", show(rec), showBytes(b), err, showBytes(want))
	}
	if n, err := tlv.Size(rec); n != len(want) || err != api.OK {
		t.Errorf("Size(%s): %d, %d, not %d", show(rec), n, err, len(want))
	}
}

// wantRefused looks that Check, Encode and Size refuse these fields.
func wantRefused(t *testing.T, rec []api.Field, at int, want api.Errno) {
	t.Helper()
	if got, err := tlv.Check(rec); got != at || err != want {
		t.Errorf("Check(%s): %d, %d, not %d, %d", show(rec), got, err, at, want)
	}
	if b, err := tlv.Encode(rec); len(b) != 0 || err != want {
		t.Errorf("Encode(%s): %s, %d, not %d", show(rec), showBytes(b), err, want)
	}
	if n, err := tlv.Size(rec); n != 0 || err != want {
		t.Errorf("Size(%s): %d, %d, not %d", show(rec), n, err, want)
	}
}

// written are records with their bytes, told by hand.
func written() []struct {
	rec    []api.Field
	digits string
} {
	nine80, eightFF := strings.Repeat("80", 9), strings.Repeat("ff", 8)
	return []struct {
		rec    []api.Field
		digits string
	}{
		{nil, ""},
		{[]api.Field{}, ""},
		{one(1, unsigned, 0, ""), "09 01 00"},
		{one(1, unsigned, 1, ""), "09 01 01"},
		{one(1, unsigned, 2, ""), "09 01 02"},
		{one(1, unsigned, 5, ""), "09 01 05"},
		{one(1, unsigned, 127, ""), "09 01 7f"},
		{one(1, unsigned, 128, ""), "09 02 80 01"},
		{one(1, unsigned, 300, ""), "09 02 ac 02"},
		{one(1, unsigned, 1<<63-1, ""), "09 09 " + eightFF + "7f"},
		{one(1, unsigned, 1<<63, ""), "09 0a " + nine80 + "01"},
		{one(1, unsigned, 1<<64-1, ""), "09 0a " + eightFF + "ff 01"},
		{one(1, signed, 0, ""), "0a 01 00"},
		{one(1, signed, 1, ""), "0a 01 02"},
		{one(1, signed, 2, ""), "0a 01 04"},
		{one(2, signed, minus(1), ""), "12 01 01"},
		{one(1, signed, 1<<64-1, ""), "0a 01 01"},
		{one(1, signed, minus(2), ""), "0a 01 03"},
		{one(1, signed, 63, ""), "0a 01 7e"},
		{one(1, signed, 64, ""), "0a 02 80 01"},
		{one(1, signed, minus(64), ""), "0a 01 7f"},
		{one(1, signed, minus(65), ""), "0a 02 81 01"},
		{one(1, signed, 127, ""), "0a 02 fe 01"},
		{one(1, signed, 128, ""), "0a 02 80 02"},
		{one(1, signed, minus(128), ""), "0a 02 ff 01"},
		{one(1, signed, 1<<63-1, ""), "0a 0a fe " + eightFF + "01"},
		{one(1, signed, 1<<63, ""), "0a 0a ff " + eightFF + "01"},
		{one(1, truth, 0, ""), "0b 01 00"},
		{one(3, truth, 1, ""), "1b 01 01"},
		{one(1, text, 0, ""), "0c 00"},
		{one(2, text, 0, "n"), "14 01 6e"},
		{one(1, text, 0, "é"), "0c 02 c3 a9"},
		{one(16, text, 0, "ab"), "84 01 02 61 62"},
		{one(1, text, 0, strings.Repeat("a", 127)), "0c 7f " + strings.Repeat("61", 127)},
		{one(1, text, 0, strings.Repeat("a", 128)), "0c 80 01 " + strings.Repeat("61", 128)},
		{one(1, raw, 0, ""), "0d 00"},
		{one(1, raw, 0, "\xff"), "0d 01 ff"},
		{one(1, raw, 0, "\x00\x80"), "0d 02 00 80"},
		{one(15, unsigned, 7, ""), "79 01 07"},
		{one(16, unsigned, 7, ""), "81 01 01 07"},
		{one(2047, unsigned, 7, ""), "f9 7f 01 07"},
		{one(2048, unsigned, 7, ""), "81 80 01 01 07"},
		{one(65535, raw, 0, "z"), "fd ff 1f 01 7a"},
		{one(65535, unsigned, 0, ""), "f9 ff 1f 01 00"},
		{[]api.Field{field(1, unsigned, 300, ""), field(2, signed, minus(1), "")}, "09 02 ac 02 12 01 01"},
		{[]api.Field{field(1, unsigned, 6, ""), field(2, text, 0, "m")}, "09 01 06 14 01 6d"},
		{[]api.Field{field(1, text, 0, ""), field(2, raw, 0, ""), field(65535, truth, 1, "")}, "0c 00 15 00 fb ff 1f 01 01"},
	}
}

// P5.1

func TestEncodeByHand(t *testing.T) {
	for _, w := range written() {
		wantBytes(t, w.rec, row(t, w.digits))
	}
	if n, err := tlv.Size(one(1, raw, 0, "")); n != 2 || err != api.OK {
		t.Errorf("Size of {1, bytes of none}: %d, %d", n, err)
	}
}

func TestEncodeOfAllSamples(t *testing.T) {
	for _, rec := range samples() {
		wantBytes(t, rec, plainBytes(rec))
	}
}

func TestAllTags(t *testing.T) {
	var rec []api.Field
	for tag := 1; tag <= 65535; tag++ {
		f := field(tag, unsigned, uint64(tag), "")
		rec = append(rec, f)
		if b, err := tlv.Encode([]api.Field{f}); !bytes.Equal(b, plainField(f)) || err != api.OK {
			t.Fatalf("Encode at tag %d: %x, %d", tag, b, err)
		}
	}
	wantBytes(t, rec, plainBytes(rec))
	wantRefused(t, append(rec, field(65536, unsigned, 0, "")), 65535, api.ErrArg)
	wantRefused(t, append(rec, field(65535, unsigned, 0, "")), 65535, api.ErrArg)
	wantRefused(t, append(rec, field(1, unsigned, 0, "")), 65535, api.ErrArg)
}

func TestTagsOutsideOfWhatTheyMayBe(t *testing.T) {
	for _, tag := range noTags() {
		for _, v := range []api.Value{{Kind: unsigned, N: 5}, {Kind: signed}, {Kind: truth, N: 1}, {Kind: text, S: "a"}, {Kind: raw}} {
			bad := api.Field{Tag: tag, Val: v}
			wantRefused(t, []api.Field{bad}, 0, api.ErrArg)
			wantRefused(t, []api.Field{bad, field(7, unsigned, 1, "")}, 0, api.ErrArg)
			wantRefused(t, []api.Field{field(7, unsigned, 1, ""), bad}, 1, api.ErrArg)
			wantRefused(t, []api.Field{field(1, raw, 0, ""), field(65535, raw, 0, ""), bad}, 2, api.ErrArg)
		}
	}
}

func TestTagsThatDoNotRise(t *testing.T) {
	for i, a := range tags() {
		for j, b := range tags() {
			rec := []api.Field{field(a, unsigned, 1, ""), field(b, text, 0, "x")}
			if i < j {
				wantBytes(t, rec, plainBytes(rec))
				continue
			}
			wantRefused(t, rec, 1, api.ErrArg)
			wantRefused(t, append(rec, field(65535, truth, 0, "")), 1, api.ErrArg)
		}
	}
	wantRefused(t, []api.Field{field(5, raw, 0, ""), field(9, raw, 0, ""), field(9, raw, 0, "")}, 2, api.ErrArg)
	wantRefused(t, []api.Field{field(5, raw, 0, ""), field(9, raw, 0, ""), field(7, raw, 0, "")}, 2, api.ErrArg)
	wantRefused(t, []api.Field{field(5, raw, 0, ""), field(9, raw, 0, ""), field(5, raw, 0, ""), field(7, raw, 0, "")}, 2, api.ErrArg)
}

func TestValuesThatAreNotValid(t *testing.T) {
	good := []api.Field{field(1, unsigned, 1, ""), field(3, text, 0, "a"), field(5, raw, 0, "\xff"), field(7, truth, 1, "")}
	for _, v := range noValues() {
		wantRefused(t, []api.Field{{Tag: 1, Val: v}}, 0, api.ErrArg)
		wantRefused(t, []api.Field{{Tag: 65535, Val: v}}, 0, api.ErrArg)
		for i := range good {
			rec := slices.Clone(good)
			rec[i].Val = v
			wantRefused(t, rec, i, api.ErrArg)
		}
	}
}

func TestTheFirstFaultIsTold(t *testing.T) {
	good := []api.Field{field(1, unsigned, 1, ""), field(2, text, 0, "a"), field(3, signed, 9, ""), field(4, truth, 1, "")}
	for i := range good {
		for j := i + 1; j < len(good); j++ {
			rec := slices.Clone(good)
			rec[i].Val.Kind = 6
			rec[j].Tag = 0
			wantRefused(t, rec, i, api.ErrArg)
			rec = slices.Clone(good)
			rec[i].Tag = 65536
			rec[j].Val.N = 2
			rec[j].Val.S = "\xff"
			wantRefused(t, rec, i, api.ErrArg)
		}
	}
}

func TestRawFields(t *testing.T) {
	r := lcg(7)
	vs := append(values(), noValues()...)
	ts := append(slices.Concat(tags(), tags(), tags()), noTags()...)
	for range 20000 {
		var rec []api.Field
		for range r.next() % 4 {
			v := vs[r.next()%uint64(len(vs))]
			v.S = v.S[:min(len(v.S), 200)]
			rec = append(rec, api.Field{Tag: ts[r.next()%uint64(len(ts))], Val: v})
		}
		if at := plainFault(rec); at >= 0 {
			wantRefused(t, rec, at, api.ErrArg)
		} else {
			wantBytes(t, rec, plainBytes(rec))
		}
	}
}

// fill is a text of n bytes.
func fill(n int) string { return strings.Repeat("x", n) }

func TestJustMaxRecordBytes(t *testing.T) {
	const most = 16777215
	for _, c := range []struct {
		rec  []api.Field
		size int
	}{
		{one(1, raw, 0, fill(16777209)), most - 1},
		{one(1, raw, 0, fill(16777210)), most},
		{one(1, raw, 0, fill(16777211)), most + 1},
		{one(1, raw, 0, fill(16777215)), most + 6},
		{one(1, text, 0, fill(16777210)), most},
		{one(1, text, 0, fill(16777211)), most + 1},
		{one(1, text, 0, strings.Repeat("é", 8388605)), most},
		{one(1, text, 0, strings.Repeat("é", 8388605)+"x"), most + 1},
		{one(16, raw, 0, fill(16777209)), most},
		{one(16, raw, 0, fill(16777210)), most + 1},
		{one(65535, raw, 0, fill(16777208)), most},
		{one(65535, raw, 0, fill(16777209)), most + 1},
		{[]api.Field{field(1, raw, 0, fill(16777207)), field(2, unsigned, 1, "")}, most},
		{[]api.Field{field(1, raw, 0, fill(16777207)), field(2, unsigned, 128, "")}, most + 1},
		{[]api.Field{field(1, truth, 1, ""), field(2, raw, 0, fill(16777207))}, most},
		{[]api.Field{field(1, truth, 1, ""), field(2, raw, 0, fill(16777208))}, most + 1},
		{[]api.Field{field(1, text, 0, fill(8000000)), field(2, raw, 0, fill(8777205))}, most},
		{[]api.Field{field(1, text, 0, fill(8000000)), field(2, raw, 0, fill(8777206))}, most + 1},
		{[]api.Field{field(1, text, 0, fill(1<<25)), field(2, raw, 0, fill(1<<25))}, most + 1},
	} {
		if c.size > most {
			wantRefused(t, c.rec, 0, api.ErrLong)
			continue
		}
		if n := len(plainBytes(c.rec)); n != c.size {
			t.Errorf("%s has %d bytes, not %d", show(c.rec), n, c.size)
		}
		wantBytes(t, c.rec, plainBytes(c.rec))
	}
}

func TestManyFieldsOfMaxRecordBytes(t *testing.T) {
	var rec []api.Field
	size := 0
	for tag := 1; tag <= 65535; tag++ {
		f := field(tag, raw, 0, fill(250))
		rec = append(rec, f)
		size += len(plainField(f))
	}
	last := &rec[len(rec)-1].Val
	last.S = fill(250 + 16777215 - size - 1) // its length has a byte more then
	wantBytes(t, rec, plainBytes(rec))
	if n, _ := tlv.Size(rec); n != 16777215 {
		t.Errorf("Size: %d", n)
	}
	last.S += "x"
	wantRefused(t, rec, 0, api.ErrLong)
}

func TestAFaultIsToldAheadOfTheLength(t *testing.T) {
	long := field(1, raw, 0, fill(16777215))
	wantRefused(t, []api.Field{long}, 0, api.ErrLong)
	wantRefused(t, []api.Field{long, field(2, unsigned, 1, "")}, 0, api.ErrLong)
	wantRefused(t, []api.Field{field(1, unsigned, 1, ""), field(2, raw, 0, long.Val.S)}, 0, api.ErrLong)
	wantRefused(t, []api.Field{long, field(1, unsigned, 1, "")}, 1, api.ErrArg)
	wantRefused(t, []api.Field{long, field(2, unsigned, 1, "x")}, 1, api.ErrArg)
	wantRefused(t, []api.Field{long, field(2, raw, 0, long.Val.S), field(3, text, 0, "\xff")}, 2, api.ErrArg)
	wantRefused(t, []api.Field{field(1, text, 0, long.Val.S+"\xff")}, 0, api.ErrArg)
	wantRefused(t, []api.Field{field(0, raw, 0, long.Val.S)}, 0, api.ErrArg)
}

// P5.4

func TestARecordInTwoPieces(t *testing.T) {
	for _, rec := range samples() {
		whole, _ := tlv.Encode(rec)
		for i := range len(rec) + 1 {
			first, e1 := tlv.Encode(rec[:i])
			second, e2 := tlv.Encode(rec[i:])
			if e1 != api.OK || e2 != api.OK || !bytes.Equal(slices.Concat(first, second), whole) {
				t.Errorf("%s cut at %d: %s and %s, the whole %s", show(rec), i, showBytes(first), showBytes(second), showBytes(whole))
			}
			m, _ := tlv.Size(rec[:i])
			n, _ := tlv.Size(rec[i:])
			if m != len(first) || n != len(second) {
				t.Errorf("Size of %s cut at %d: %d and %d", show(rec), i, m, n)
			}
			wantRecord(t, whole[:m], rec[:i])
			wantRecord(t, whole[m:], rec[i:])
		}
	}
}

func TestPiecesOfALongRecord(t *testing.T) {
	rec := []api.Field{field(1, text, 0, fill(9000000)), field(2, raw, 0, fill(7777202)), field(3, unsigned, 1, "")}
	wantBytes(t, rec, slices.Concat(plainField(rec[0]), plainField(rec[1]), plainField(rec[2])))
	rec[1].Val.S = fill(9000000)
	wantRefused(t, rec, 0, api.ErrLong)
	wantBytes(t, rec[:1], plainField(rec[0]))
	wantBytes(t, rec[1:], slices.Concat(plainField(rec[1]), plainField(rec[2])))
}

// P5.5

// roomyRecord is a record with spare room, which is written full.
func roomyRecord(rec []api.Field, spare int) []api.Field {
	all := slices.Clone(rec)
	for range spare {
		all = append(all, field(-9, 99, 9, "spare"))
	}
	return all[:len(rec):len(all)]
}

// spoilFields writes over all that a list of fields can reach.
func spoilFields(rec []api.Field) {
	rec = rec[:cap(rec)]
	for i := range rec {
		rec[i] = field(-3, 77, 3, "spoiled")
	}
}

// spoilBytes writes over all that a list of bytes can reach.
func spoilBytes(b []byte) {
	b = b[:cap(b)]
	for i := range b {
		b[i] = 0x3c
	}
}

func TestWhatIsHandedInStays(t *testing.T) {
	recs := append(mixed(60), one(0, raw, 0, "x"), one(1, text, 0, "\xff"), one(1, raw, 0, fill(16777215)))
	for _, rec := range recs {
		for _, spare := range []int{0, 1, 5} {
			given := roomyRecord(rec, spare)
			tlv.Check(given)
			tlv.Encode(given)
			tlv.Size(given)
			if want := roomyRecord(rec, spare); !slices.Equal(given[:cap(given)], want[:cap(want)]) {
				t.Errorf("a record with room for %d more is %s, it was %s", spare, show(given[:cap(given)]), show(want[:cap(want)]))
			}
		}
	}
}

func TestSpareRoomIsNoField(t *testing.T) {
	for _, rec := range mixed(60) {
		wantBytes(t, roomyRecord(rec, 3), plainBytes(rec))
		for i := range rec {
			wantBytes(t, rec[:i], plainBytes(rec[:i]))
		}
	}
}

func TestWhatEncodeAnswersIsNewMemory(t *testing.T) {
	for _, rec := range mixed(60) {
		given := slices.Clone(rec)
		want := plainBytes(rec)
		first, _ := tlv.Encode(given)
		second, _ := tlv.Encode(given)
		spoilBytes(first)
		if !bytes.Equal(second, want) {
			t.Errorf("two answers of Encode share memory: %s", showBytes(second))
		}
		if !slices.Equal(given, rec) {
			t.Errorf("what Encode answered shares memory with the record: %s", show(given))
		}
		wantBytes(t, given, want)
		spoilFields(given)
		if !bytes.Equal(second, want) {
			t.Errorf("Encode kept its record: %s", showBytes(second))
		}
		wantBytes(t, rec, want)
	}
}

func TestManyAtOnce(t *testing.T) {
	recs := mixed(40)
	var all sync.WaitGroup
	for range 8 {
		all.Go(func() {
			for _, rec := range recs {
				wantBytes(t, rec, plainBytes(rec))
				wantRecord(t, plainBytes(rec), rec)
			}
		})
	}
	all.Wait()
}

func TestNothingIsKeptFromCallToCall(t *testing.T) {
	want := one(1, unsigned, 300, "")
	started := kind.Entries()
	others := append(samples(), one(0, unsigned, 0, ""), one(1, text, 0, "\xff"), one(7, 9, 9, "x"))
	for _, rec := range others {
		b, _ := tlv.Encode(rec)
		tlv.Decode(b)
		tlv.Decode(append(b, 0))
		if got, err := tlv.Encode(want); hex.EncodeToString(got) != "0902ac02" || err != api.OK {
			t.Fatalf("behind %s: %x, %d", show(rec), got, err)
		}
		wantRecord(t, []byte{9, 2, 0xac, 2}, want)
	}
	if !slices.Equal(kind.Entries(), started) || kind.Base() != 0 || kind.Width() != 21 {
		t.Errorf("the kinds are %v, they were %v", kind.Entries(), started)
	}
}
