package tlv_test

import (
	"bytes"
	"math"
	"slices"
	"strings"
	"testing"

	"stratum/api"
	"stratum/tlv"
)

// wantRecord looks that Decode answers this record.
func wantRecord(t *testing.T, b []byte, want []api.Field) {
	t.Helper()
	if rec, err := tlv.Decode(b); !slices.Equal(rec, want) || err != api.OK {
		t.Errorf("Decode(%s): %s, %d, not %s", showBytes(b), show(rec), err, show(want))
	}
}

// wantNoRecord looks that Decode refuses these bytes.
func wantNoRecord(t *testing.T, b []byte, want api.Errno) {
	t.Helper()
	if rec, err := tlv.Decode(b); len(rec) != 0 || err != want {
		t.Errorf("Decode(%s): %s, %d, not %d", showBytes(b), show(rec), err, want)
	}
}

// wantPlain looks that Decode answers what the plain one does; it tells whether that is a record.
func wantPlain(t *testing.T, b []byte) bool {
	t.Helper()
	rec, err := plainDecode(b)
	if got, e := tlv.Decode(b); !slices.Equal(got, rec) || e != err {
		t.Errorf("Decode(%s): %s, %d, not %s, %d", showBytes(b), show(got), e, show(rec), err)
	}
	return err == api.OK
}

// P5.2

func TestDecodeByHand(t *testing.T) {
	for _, w := range written() {
		wantRecord(t, row(t, w.digits), w.rec)
	}
	wantRecord(t, nil, nil)
}

func TestBytesThatAreNoRecord(t *testing.T) {
	nine80, nineFF := strings.Repeat("80", 9), strings.Repeat("ff", 9)
	for _, digits := range []string{
		"00", "09", "80", "ff", // a key that ends too early, or that no length follows
		"89", "84 01", "0901", "0c01", "0c026e", "1b01", "0d05ffffffff", // nothing behind, or too little
		"8900 01 05", "898000 01 05", "8980808000 01 05", "8400 01 61", // a key that isn't in as few bytes as it needs
		"09 8100 05", "0c 8100 61", "0c 8000", "0d 80808000", "1b 8100 01", // a length that isn't
		"09 02 8500", "09 02 8000", "0a 02 8100", "09 03 ac8200", "09 02 8100", // a number that isn't
		"09 03 ac0200", "09 02 0500", "0a 02 0100", "0a 02 0101", "09 0b " + nineFF + "0100", // longer than its number
		"09 01 ac", "09 01 80", "0a 01 ff", "09 00", "0a 00", "09 09 " + nineFF, "09 02 ac", "09 01 ac 02", // shorter than it
		"09 0a " + nineFF + "02", "09 0a " + nineFF + "7f", "0a 0a " + nineFF + "03", "09 0b " + nineFF + "8101", "09 0a " + nine80 + "80", "09 0a " + nine80 + "00", // above 2^64 - 1
		"1b 01 02", "1b 01 03", "1b 01 7f", "1b 01 80", "1b 01 ff", "1b 02 0100", "1b 02 0000", "1b 02 8001", "1b 02 8100", "1b 00", // no bool
		"0c 01 ff", "0c 01 80", "0c 02 c341", "0c 03 eda080", "0c 02 c080", "0c 01 c3 a9", "14 04 f4908080", // no UTF-8
		"08 00", "08 01 05", "0e 00", "0f 00", "0e 01 05", "0f 01 61", "10 00", "16 00", "17 00", "f8ff1f 00", "feff1f 00", // kinds 0, 6 and 7
		"00 00", "01 01 00", "02 01 00", "03 01 01", "04 00", "05 00", "05 01 61", "06 00", "07 00", // tag 0
		"818020 01 00", "828020 01 00", "858020 00", "848020 01 61", "898020 01 05", "8180808001 01 00", nineFF + "01 00", "f9" + nineFF[2:] + "01 01 00", nineFF + "02 00", nineFF + "ff01 00", // a tag above MaxTag
		"09 01 05 09 01 05", "11 01 05 09 01 05", "0c 00 0d 00", "0d 00 0c 00", "15 00 0d 00", "09 01 05 11 01 05 0a 01 05", "fdff1f 00 0d 00", "09 01 05 01 01 05", "09 01 05 05 00", // tags that don't rise
		"0d 01", "0d 02 61", "0c 7f 61", "0d ffff7f 61", "0d ff808001", "0d " + nineFF + "01", "0d " + nineFF + "01 61", "0d " + nine80 + "01 61", "0c " + nine80 + "01", "0d ffffffffffffffff7f 61", "0d ffffffff0f 61", "0d 8080808010 61", "09 " + nineFF + "01 05", "09 01 05 0d feffffffffffffffff01 61", // a length beyond the end
		"0d " + nineFF + "02 61", "0d " + nineFF + "ff01 61", "0d " + nine80 + "00", "0d 80", "09 ff", "09 01 05 14 ff", // a length that is no number
		"09 02 ac 02 00", "09 02 ac 02 09", "09 02 ac 02 11", "09 02 ac 02 12 01", "09 01 05 00", "0d 00 00", "0d 00 ff", // more behind a record
		"0902ac0209", "0980018001",
	} {
		wantNoRecord(t, row(t, digits), api.ErrMalformed)
	}
}

func TestNumbersInMoreBytesThanTheyNeed(t *testing.T) {
	for _, rec := range small() {
		for i, f := range rec {
			ahead, behind := plainBytes(rec[:i]), plainBytes(rec[i+1:])
			payload := plainPayload(f.Val)
			key, size := 8*uint64(f.Tag)+uint64(f.Val.Kind), uint64(len(payload))
			for more := range 12 {
				longKey := slices.Concat(ahead, padded(key, more), plainNumber(size), payload, behind)
				longSize := slices.Concat(ahead, plainNumber(key), padded(size, more), payload, behind)
				if more == 0 {
					wantRecord(t, longKey, rec)
					wantRecord(t, longSize, rec)
					continue
				}
				wantNoRecord(t, longKey, api.ErrMalformed)
				wantNoRecord(t, longSize, api.ErrMalformed)
			}
		}
	}
	for _, n := range numbers() {
		for more := 1; more < 12; more++ {
			b := padded(n, more)
			wantNoRecord(t, slices.Concat([]byte{0x09, byte(len(b))}, b), api.ErrMalformed)
			wantNoRecord(t, slices.Concat([]byte{0x0a, byte(len(b))}, b), api.ErrMalformed)
		}
	}
}

func TestKeysOfAllSizes(t *testing.T) {
	records := 0
	for _, x := range append(numbers(), 8*65535, 8*65535+1, 8*65535+5, 8*65535+7, 8*65536, 8*65536+1, 8*65536+5, 8*(1<<16+1)+1, 8*(1<<32)+9, 8*(1<<32)+13, 1<<63+9, math.MaxUint64-6, math.MaxUint64-2) {
		for _, behind := range []string{"00", "01 00", "01 01", "01 61"} {
			b := slices.Concat(plainNumber(x), row(t, behind))
			if k := x % 8; k == 0 || k > 5 || x < 8 || x/8 > 65535 {
				wantNoRecord(t, b, api.ErrMalformed)
			}
			if wantPlain(t, b) {
				records++
			}
		}
	}
	if records < 12 {
		t.Errorf("only %d of them were records", records)
	}
}

func TestLengthsOfAllSizes(t *testing.T) {
	for _, k := range []byte{0x09, 0x0a, 0x0b, 0x0c, 0x0d} {
		for _, size := range numbers() {
			for _, n := range []int{0, 1, 2, 63, 64, 65, 127, 128} {
				b := slices.Concat([]byte{k}, plainNumber(size), bytes.Repeat([]byte{'a'}, n))
				if ok := wantPlain(t, b); ok != (uint64(n) == size && (k >= 0x0c || k < 0x0b && n == 1)) {
					t.Errorf("Decode(%s): a record: %v", showBytes(b), ok)
				}
			}
		}
	}
}

func TestAllShortRows(t *testing.T) {
	records := 0
	look := func(b ...byte) {
		if wantPlain(t, b) {
			records++
		}
	}
	look()
	for a := range 256 {
		look(byte(a))
		for b := range 256 {
			look(byte(a), byte(b))
			for _, c := range []byte{0, 1, 2, 5, 9, 0x0c, 0x0d, 0x61, 0x7f, 0x80, 0x81, 0xc3, 0xff} {
				look(byte(a), byte(b), c)
			}
		}
	}
	if records < 300 {
		t.Errorf("only %d of them were records", records)
	}
}

func TestAllRowsOfFewBytes(t *testing.T) {
	letters := []byte{0, 1, 2, 9, 0x0a, 0x0b, 0x0c, 0x15, 0x80, 0xc3}
	records := 0
	rows := [][]byte{nil}
	for range 5 {
		var longer [][]byte
		for _, b := range rows {
			for _, c := range letters {
				longer = append(longer, append(slices.Clone(b), c))
			}
		}
		rows = longer
		for _, b := range rows {
			if wantPlain(t, b) {
				records++
			}
		}
	}
	if records < 100 {
		t.Errorf("only %d of them were records", records)
	}
}

func TestScatteredRows(t *testing.T) {
	r := lcg(11)
	records := 0
	for i := range 50000 {
		var b []byte
		for tag := uint64(0); len(b) < i%60; {
			tag += r.next() % 3
			size := r.next() % 4
			b = append(b, plainNumber(8*tag+r.next()%7)...)
			b = append(b, byte(size))
			for range size {
				b = append(b, byte(r.next()>>r.next()%8))
			}
		}
		if wantPlain(t, b) {
			records++
		}
	}
	if records < 1000 {
		t.Errorf("only %d of them were records", records)
	}
}

func TestOneByteTurned(t *testing.T) {
	for _, rec := range small() {
		whole := plainBytes(rec)
		for i := range whole {
			for c := range 256 {
				b := slices.Clone(whole)
				b[i] = byte(c)
				wantPlain(t, b)
			}
		}
	}
}

func TestOneByteMoreOrLess(t *testing.T) {
	for _, rec := range small() {
		whole := plainBytes(rec)
		for i := range whole {
			wantPlain(t, slices.Concat(whole[:i], whole[i+1:]))
		}
		for i := range len(whole) + 1 {
			for c := range 256 {
				wantPlain(t, slices.Concat(whole[:i], []byte{byte(c)}, whole[i:]))
			}
		}
	}
}

func TestBytesThatEndTooEarly(t *testing.T) {
	for _, rec := range append(small(), mixed(60)...) {
		whole := plainBytes(rec)
		fields := map[int]int{} // by where each field begins, how many are ahead of it
		for i := range len(rec) + 1 {
			fields[len(plainBytes(rec[:i]))] = i
		}
		for n := range len(whole) + 1 {
			if i, ok := fields[n]; ok {
				wantRecord(t, whole[:n], rec[:i])
			} else {
				wantNoRecord(t, whole[:n], api.ErrMalformed)
			}
		}
	}
}

func TestDecodeOfMaxRecordBytes(t *testing.T) {
	for _, rec := range [][]api.Field{
		one(1, raw, 0, fill(16777210)),
		one(1, text, 0, strings.Repeat("é", 8388605)),
		{field(1, truth, 1, ""), field(2, raw, 0, fill(16777207))},
	} {
		b := plainBytes(rec)
		if len(b) != 16777215 {
			t.Fatalf("%s has %d bytes", show(rec), len(b))
		}
		wantRecord(t, b, rec)
		wantNoRecord(t, b[:len(b)-1], api.ErrMalformed)
		wantNoRecord(t, append(b, 0), api.ErrLong)
	}
	for _, c := range []byte{0, 1, 9, 0x80, 0xff} {
		b := bytes.Repeat([]byte{c}, 16777216)
		wantNoRecord(t, b, api.ErrLong)
		wantNoRecord(t, b[1:], api.ErrMalformed)
	}
}

func TestDecodeOfMoreThanMaxRecordBytes(t *testing.T) {
	for _, rec := range [][]api.Field{
		one(1, raw, 0, fill(16777211)),
		one(1, text, 0, fill(1<<25)),
		{field(1, raw, 0, fill(9000000)), field(2, raw, 0, fill(9000000))},
	} {
		wantNoRecord(t, plainBytes(rec), api.ErrLong)
	}
}

// P5.3

func TestDecodeOfWhatEncodeMade(t *testing.T) {
	for _, rec := range samples() {
		b, err := tlv.Encode(rec)
		if err != api.OK {
			t.Errorf("Encode(%s): %d", show(rec), err)
		}
		wantRecord(t, b, rec)
	}
}

func TestEncodeOfWhatDecodeMade(t *testing.T) {
	r := lcg(3)
	taken := 0
	for _, rec := range small() {
		whole := plainBytes(rec)
		for range 2000 * min(1, len(whole)) {
			b := slices.Clone(whole)
			for range 1 + r.next()%2 {
				b[r.next()%uint64(len(b))] ^= 1 << (r.next() % 8)
			}
			rec, err := tlv.Decode(b)
			if err != api.OK {
				continue
			}
			taken++
			wantBytes(t, rec, b)
		}
	}
	if taken < 1000 {
		t.Errorf("only %d of the rows were records", taken)
	}
}

func TestOtherRecordsHaveOtherBytes(t *testing.T) {
	seen := map[string][]api.Field{}
	for _, rec := range append(samples(), small()...) {
		b, _ := tlv.Encode(rec)
		if other, ok := seen[string(b)]; ok && !slices.Equal(other, rec) {
			t.Errorf("%s and %s have the same bytes", show(rec), show(other))
		}
		seen[string(b)] = rec
	}
}

func TestAllFieldsThereAndBack(t *testing.T) {
	var rec []api.Field
	vs := values()
	for tag := 1; tag <= 65535; tag++ {
		v := vs[tag%len(vs)]
		v.S = v.S[:min(len(v.S), 128)] // at a character's end, in all of them
		rec = append(rec, api.Field{Tag: tag, Val: v})
	}
	b, err := tlv.Encode(rec)
	if err != api.OK {
		t.Fatal(err)
	}
	wantRecord(t, b, rec)
}

// P5.5

// roomyBytes is a list of bytes with spare room, which is written full.
func roomyBytes(b []byte, spare []byte) []byte {
	all := slices.Concat(b, spare)
	return all[:len(b):len(all)]
}

func TestDecodeLeavesItsBytesAsTheyWere(t *testing.T) {
	for _, rec := range mixed(60) {
		own := plainBytes(rec)
		for _, spare := range [][]byte{nil, {0xa5}, bytes.Repeat([]byte{0xa5}, 100), plainField(field(65535, raw, 0, "x"))} {
			for _, b := range [][]byte{own, append(slices.Clone(own), 0x09), append(slices.Clone(own), 0x0c, 1)} {
				given := roomyBytes(b, spare)
				wantPlain(t, given)
				if want := roomyBytes(b, spare); !bytes.Equal(given[:cap(given)], want[:cap(want)]) {
					t.Errorf("a list with room for %d more is %s, it was %s", len(spare), showBytes(given[:cap(given)]), showBytes(want[:cap(want)]))
				}
			}
		}
	}
}

func TestDecodeEndsWhereItsListEnds(t *testing.T) {
	b := row(t, "09 02 ac 02 0c 01 61")
	wantNoRecord(t, b[:3], api.ErrMalformed)
	wantNoRecord(t, b[:1], api.ErrMalformed)
	wantNoRecord(t, b[:6], api.ErrMalformed)
	wantRecord(t, b[:4], one(1, unsigned, 300, ""))
	wantRecord(t, b[:0], nil)
}

func TestWhatDecodeAnswersIsNewMemory(t *testing.T) {
	for _, rec := range mixed(60) {
		b := plainBytes(rec)
		first, _ := tlv.Decode(b)
		second, _ := tlv.Decode(b)
		spoilFields(first)
		if !slices.Equal(second, rec) {
			t.Errorf("two answers of Decode share memory: %s", show(second))
		}
		wantRecord(t, b, rec)
		spoilBytes(b)
		if !slices.Equal(second, rec) {
			t.Errorf("Decode kept its bytes: %s", show(second))
		}
		wantRecord(t, plainBytes(rec), rec)
	}
}
