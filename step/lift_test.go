package step_test

import (
	"math"
	"slices"
	"strconv"
	"strings"
	"testing"

	"stratum/api"
	"stratum/check"
	"stratum/step"
)

// P14.3 and P14.4

// ofText is the history of a schema's text.
func ofText(t *testing.T, s string) api.History {
	t.Helper()
	h, at, err := check.Text(s)
	if err != api.OK {
		t.Fatalf("%s: %d, %d", show(s), at, err)
	}
	return h
}

// lift is one call.
type lift struct {
	typ, from, to int
}

// wantLift looks what Lift answers, and that the model says so too.
func wantLift(t *testing.T, h api.History, l lift, rec []api.Field, want []api.Field, wantErr api.Errno) {
	t.Helper()
	if out, err := step.Lift(h, l.typ, l.from, l.to, rec); !slices.Equal(out, want) || err != wantErr {
		t.Errorf("Lift(%v, %s): %s, %d, not %s, %d", l, show(rec), show(out), err, show(want), wantErr)
	}
	if out, err := plainLift(h, l.typ, l.from, l.to, rec); !slices.Equal(out, want) || err != wantErr {
		t.Errorf("the model of Lift(%v, %s): %s, %d, not %s, %d", l, show(rec), show(out), err, show(want), wantErr)
	}
}

func wantLifted(t *testing.T, h api.History, l lift, rec []api.Field, want ...api.Field) {
	t.Helper()
	wantLift(t, h, l, rec, want, api.OK)
}

func wantFault(t *testing.T, h api.History, l lift, want api.Errno, rec ...api.Field) {
	t.Helper()
	wantLift(t, h, l, rec, nil, want)
}

// The examples

const people = `event a { version 1 { add who: text; } version 2 { split who at " " into first, last; } version 3 { retype last to uint; drop last; } }`

func TestExamplesOfLift(t *testing.T) {
	h := ofText(t, `event a { version 1 { add n: text; } version 2 { retype n to uint; } version 3 { drop n; } }`)
	wantFault(t, h, lift{0, 1, 3}, api.ErrNumber, words(1, "x"))
	wantLifted(t, h, lift{0, 1, 3}, record(words(1, "5")))
	wantLifted(t, h, lift{0, 2, 3}, record(number(1, 5)))
	wantFault(t, h, lift{0, 2, 3}, api.ErrTyped, words(1, "5"))
	for _, rec := range [][]api.Field{nil, {words(1, "5")}, {number(1, 5)}} {
		wantFault(t, h, lift{0, 3, 2}, api.ErrVersion, rec...)
		wantFault(t, h, lift{0, 0, 3}, api.ErrVersion, rec...)
		wantFault(t, h, lift{0, 1, 4}, api.ErrVersion, rec...)
		wantFault(t, h, lift{-1, 1, 1}, api.ErrType, rec...)
	}
}

func TestExamplesOfTheWhole(t *testing.T) {
	h := ofText(t, people) // DOC.md's example 5
	wantLifted(t, h, lift{0, 1, 3}, record(words(1, "Ada 7")), words(2, "Ada"))
	wantFault(t, h, lift{0, 1, 3}, api.ErrNumber, words(1, "Ada B"))
	wantLifted(t, h, lift{0, 1, 2}, record(words(1, "Ada B")), words(2, "Ada"), words(3, "B"))

	h = ofText(t, `event a { version 1 { add x: uint; } version 2 { add y: text = "n"; rename x to z; } }`)
	wantLifted(t, h, lift{0, 1, 2}, record(number(1, 5)), number(1, 5), words(2, "n")) // and 3

	h = ofText(t, `event e { version 1 { add a: uint; add b: text; } version 2 { retype a to text; add c: bool = true; } version 3 { drop a; split b at "," into x, y; } }`)
	wantLifted(t, h, lift{0, 1, 2}, record(number(1, 7), words(2, "p")), words(1, "7"), words(2, "p"), yes(3)) // layer 16's
	wantLifted(t, h, lift{0, 1, 3}, record(number(1, 7), words(2, "p,q")), yes(3), words(4, "p"), words(5, "q"))
}

// many has all kinds of steps, in several versions, and columns of all kinds.
const many = `
event first {
  version 1 { }
  version 2 { add n: uint = 7; }
}
event second {
  version 1 { add a: text; add b: bytes; add c: uint; add d: int; add e: bool; }
  version 2 { split a at "," into f, g; rename c to h; drop e; }
  version 3 { }
  version 4 { join g, f with "/" into a; add i: text = "n"; retype h to text; }
  version 5 { retype a to bytes; join i, h with "" into j; retype d to uint; split j at "n" into k, l; retype l to uint; }
}`

func TestStepsInTheirOrder(t *testing.T) {
	h := ofText(t, many)
	one := record(words(1, "x,y,z"), rawBytes(2, "\xff"), number(3, 42), whole(4, 9), yes(5))
	two := record(rawBytes(2, "\xff"), number(3, 42), whole(4, 9), words(6, "x"), words(7, "y,z"))
	four := record(rawBytes(2, "\xff"), words(3, "42"), whole(4, 9), words(8, "y,z/x"), words(9, "n"))
	five := record(rawBytes(2, "\xff"), number(4, 9), rawBytes(8, "y,z/x"), words(11, ""), number(12, 42))
	for _, r := range []struct {
		from, to  int
		rec, want []api.Field
	}{
		{1, 1, one, one}, {1, 2, one, two}, {1, 3, one, two}, {1, 4, one, four}, {1, 5, one, five},
		{2, 2, two, two}, {2, 3, two, two}, {2, 4, two, four}, {2, 5, two, five},
		{3, 3, two, two}, {3, 4, two, four}, {3, 5, two, five}, {4, 4, four, four}, {4, 5, four, five}, {5, 5, five, five},
	} {
		wantLifted(t, h, lift{1, r.from, r.to}, r.rec, r.want...)
	}
	for from := 1; from <= 2; from++ {
		wantLifted(t, h, lift{0, from, from}, record(number(1, 7))[:from-1], record(number(1, 7))[:from-1]...)
	}
	wantLifted(t, h, lift{0, 1, 2}, nil, number(1, 7))
	wantLifted(t, h, lift{0, 1, 2}, []api.Field{}, number(1, 7))
}

// TestTheOrderCounts: steps that make something else in another order, in one version and in two.
func TestTheOrderCounts(t *testing.T) {
	for _, between := range []string{"", "} version 3 { ", "} version 3 { } version 4 { "} {
		h := ofText(t, `event a { version 1 { add x: text; add y: text; } version 2 { join x, y with "-" into z; `+between+`split z at "-" into x, y; } }`)
		wantLifted(t, h, lift{0, 1, len(h.Types[0].Versions)}, record(words(1, "a-b"), words(2, "c")), words(4, "a"), words(5, "b-c"))
		h = ofText(t, `event a { version 1 { add x: text; } version 2 { split x at "-" into x, y; `+between+`join y, x with "-" into z; } }`)
		wantLifted(t, h, lift{0, 1, len(h.Types[0].Versions)}, record(words(1, "a-b-c")), words(4, "b-c-a"))
		h = ofText(t, `event a { version 1 { add x: text; } version 2 { retype x to uint; `+between+`retype x to text; } }`)
		wantLifted(t, h, lift{0, 1, len(h.Types[0].Versions)}, record(words(1, "007")), words(1, "7"))
	}
}

// The errors, each by itself

const longer = `
event a {
  version 1 { add x: text; add y: text; }
  version 2 { retype x to uint; }
  version 3 { retype y to bool; }
  version 4 { drop x; }
}
event b { version 1 { } }`

func TestErrType(t *testing.T) {
	h := ofText(t, longer)
	for _, typ := range append(far(), 2, 3, 255) {
		for _, l := range []lift{{typ, 1, 1}, {typ, 1, 2}, {typ, 0, 0}, {typ, 2, 1}, {typ, math.MinInt, math.MaxInt}, {typ, math.MaxInt, math.MinInt}} {
			wantFault(t, h, l, api.ErrType)
			wantFault(t, h, l, api.ErrType, words(1, "5"), words(2, "true"))
			wantFault(t, h, l, api.ErrType, number(0, 1))
		}
	}
	for _, typ := range append(far(), 0, 1) {
		wantFault(t, api.History{}, lift{typ, 1, 1}, api.ErrType)
	}
}

func TestErrVersion(t *testing.T) {
	h := ofText(t, longer)
	good := record(words(1, "5"), words(2, "true"))
	for _, n := range append(far(), 0, 5, 6) {
		wantFault(t, h, lift{0, n, 1}, api.ErrVersion, good...)
		wantFault(t, h, lift{0, n, 4}, api.ErrVersion, good...)
		wantFault(t, h, lift{0, n, n}, api.ErrVersion, good...)
		wantFault(t, h, lift{0, 1, n}, api.ErrVersion, good...)
		wantFault(t, h, lift{0, 4, n}, api.ErrVersion, yes(2))
	}
	for from := 1; from <= 4; from++ {
		for to := 1; to < from; to++ {
			wantFault(t, h, lift{0, from, to}, api.ErrVersion, good...)
			wantFault(t, h, lift{0, from, to}, api.ErrVersion, number(1, 5), words(2, "true"))
			wantFault(t, h, lift{0, from, to}, api.ErrVersion, yes(2))
		}
	}
	wantFault(t, h, lift{1, 1, 2}, api.ErrVersion) // the other type has more versions
	wantFault(t, h, lift{1, 2, 2}, api.ErrVersion)
	wantLifted(t, h, lift{1, 1, 1}, nil)
}

// TestLiftOfOtherColumns: every record that isn't of from's columns, though it be one of another version's.
func TestLiftOfOtherColumns(t *testing.T) {
	h := ofText(t, longer)
	recs := [][]api.Field{
		{words(1, "5"), words(2, "true")}, {number(1, 5), words(2, "true")}, {number(1, 5), yes(2)}, {yes(2)},
		nil, {words(1, "5")}, {words(2, "true")}, {words(1, "5"), words(2, "true"), yes(3)}, {words(2, "true"), words(1, "5")},
		{words(1, "5"), words(1, "5")}, {words(1, "5"), words(3, "true")}, {words(0, "5"), words(2, "true")}, {words(1, "5"), words(2, "\xff")},
		{number(1, 5), {Tag: 2, Val: api.Value{Kind: truth, N: 2}}}, {{Tag: 1, Val: api.Value{Kind: unsigned, N: 5, S: "5"}}, yes(2)}, {{}, {}}, {{}},
	}
	for i, rec := range recs {
		for from := 1; from <= 4; from++ {
			for to := from; to <= 4; to++ {
				if i == from-1 {
					want := recs[to-1]
					wantLifted(t, h, lift{0, from, to}, rec, want...)
				} else {
					wantFault(t, h, lift{0, from, to}, api.ErrTyped, rec...)
				}
			}
		}
	}
	wantFault(t, h, lift{1, 1, 1}, api.ErrTyped, yes(2))
}

// full is a text with which a record of it alone, at a tag below 16, has just MaxRecord bytes: a byte for the key, four
// for the length.
func full() string { return long(most - 5) }

func TestErrLongOfTheRecordThatIsLifted(t *testing.T) {
	h := ofText(t, `event a { version 1 { add x: text; } version 2 { } version 3 { drop x; } }`)
	for to := 1; to <= 3; to++ {
		want := record(words(1, full()))
		if to == 3 {
			want = nil
		}
		wantLifted(t, h, lift{0, 1, to}, record(words(1, full())), want...)
		wantFault(t, h, lift{0, 1, to}, api.ErrLong, words(1, full()+"a"))
		wantFault(t, h, lift{0, 1, to}, api.ErrLong, words(1, long(most+1)))
	}
}

func TestErrorsOfSteps(t *testing.T) {
	for _, r := range []struct {
		from, to string
		f        api.Field
		want     api.Errno
	}{
		{"uint", "int", number(1, 1<<63), api.ErrRange}, {"int", "uint", whole(1, -1), api.ErrRange}, {"uint", "bool", number(1, 2), api.ErrRange},
		{"text", "uint", words(1, "18446744073709551616"), api.ErrRange}, {"text", "uint", words(1, "-1"), api.ErrNumber},
		{"text", "int", words(1, "9223372036854775808"), api.ErrRange}, {"text", "int", words(1, ""), api.ErrNumber},
		{"text", "bool", words(1, "yes"), api.ErrBool}, {"bytes", "text", rawBytes(1, "\xff"), api.ErrUtf},
	} {
		for _, ahead := range []string{"", "add b: uint = 1; ", "add b: uint = 1; } version 3 { ", "} version 3 { } version 4 { "} {
			for _, behind := range []string{"", "drop a; ", "rename a to c; ", "} version 5 { drop a; "} {
				s := "event x { version 1 { add a: " + r.from + "; } version 2 { " + ahead + "retype a to " + r.to + "; " + behind + "} }"
				h := ofText(t, inOrder(s))
				n := len(h.Types[0].Versions)
				wantFault(t, h, lift{0, 1, n}, r.want, r.f)
				wantLifted(t, h, lift{0, 1, 1}, record(r.f), r.f)
			}
		}
	}
}

// inOrder gives a text's versions the numbers 1, 2, 3 and so on.
func inOrder(s string) string {
	parts := strings.Split(s, "version ")
	for i := range parts[1:] {
		_, rest, _ := strings.Cut(parts[i+1], " ")
		parts[i+1] = "version " + strconv.Itoa(i+1) + " " + rest
	}
	return strings.Join(parts, "")
}

// TestTheFirstErrorIsTold: an error in the first, in a middle and in the last step, in one version and in several.
func TestTheFirstErrorIsTold(t *testing.T) {
	steps := []string{"retype a to uint; ", "retype b to bool; ", "retype c to text; ", "retype d to bool; "}
	errs := []api.Errno{api.ErrNumber, api.ErrBool, api.ErrUtf, api.ErrRange}
	good := record(words(1, "5"), words(2, "true"), rawBytes(3, "é"), number(4, 1))
	bad := record(words(1, "x"), words(2, "x"), rawBytes(3, "\xff"), number(4, 2))
	made := record(number(1, 5), yes(2), words(3, "é"), yes(4))
	orders := [][]int{{0, 1, 2, 3}, {3, 2, 1, 0}, {2, 0, 3, 1}, {1, 3, 0, 2}}
	for _, order := range orders {
		for cut := range 8 { // between which of the steps a version ends
			s := "event x { version 1 { add a: text; add b: text; add c: bytes; add d: uint; } version 2 { "
			for i, o := range order {
				s += steps[o]
				if cut>>i&1 == 1 && i < 3 {
					s += "} version 3 { "
				}
			}
			h := ofText(t, inOrder(s+"} }"))
			for faults := range 16 {
				rec, want, wantErr := slices.Clone(good), made, api.OK
				for i := range order {
					o := order[3-i]
					if faults>>o&1 == 1 {
						rec[o], want, wantErr = bad[o], nil, errs[o]
					}
				}
				wantLift(t, h, lift{0, 1, len(h.Types[0].Versions)}, rec, want, wantErr)
			}
		}
	}
}

// TestOnlyTheVersionsBetween: steps up to from and behind to aren't done, the first version's neither.
func TestOnlyTheVersionsBetween(t *testing.T) {
	h := ofText(t, `event x { version 1 { add a: text; } version 2 { retype a to uint; } version 3 { retype a to bool; } version 4 { retype a to text; } }`)
	wantLifted(t, h, lift{0, 1, 1}, record(words(1, "x")), words(1, "x"))
	wantLifted(t, h, lift{0, 1, 2}, record(words(1, "7")), number(1, 7))
	wantFault(t, h, lift{0, 1, 3}, api.ErrRange, words(1, "7"))
	wantFault(t, h, lift{0, 1, 4}, api.ErrRange, words(1, "7"))
	wantLifted(t, h, lift{0, 2, 2}, record(number(1, 7)), number(1, 7))
	wantLifted(t, h, lift{0, 2, 4}, record(number(1, 1)), words(1, "true"))
	wantLifted(t, h, lift{0, 3, 3}, record(yes(1)), yes(1))
	wantLifted(t, h, lift{0, 3, 4}, record(yes(1)), words(1, "true"))
	wantLifted(t, h, lift{0, 4, 4}, record(words(1, "no")), words(1, "no"))
}

// TestOfADroppedField: an error counts though its field is dropped, renamed, split or joined behind it.
func TestOfADroppedField(t *testing.T) {
	h := ofText(t, `event x { version 1 { add a: text; add b: bytes; } version 2 { retype a to uint; } version 3 { drop a; retype b to text; } version 4 { split b at "," into c, d; drop c; drop d; } }`)
	wantLifted(t, h, lift{0, 1, 4}, record(words(1, "5"), rawBytes(2, "x")))
	wantFault(t, h, lift{0, 1, 4}, api.ErrNumber, words(1, "x"), rawBytes(2, "x"))
	wantFault(t, h, lift{0, 1, 4}, api.ErrUtf, words(1, "5"), rawBytes(2, "\xff"))
	wantFault(t, h, lift{0, 1, 4}, api.ErrNumber, words(1, "x"), rawBytes(2, "\xff"))
	wantFault(t, h, lift{0, 2, 4}, api.ErrUtf, number(1, 5), rawBytes(2, "\xff"))
}

// Long records on the way

func TestErrLongAtTheEnd(t *testing.T) {
	h := ofText(t, `event x { version 1 { add a: text; } version 2 { add b: bool = true; } version 3 { drop b; } version 4 { drop a; } version 5 { add c: text = "é"; } }`)
	rec := record(words(1, full()))
	wantFault(t, h, lift{0, 1, 2}, api.ErrLong, rec...)
	wantLifted(t, h, lift{0, 1, 3}, rec, rec...) // short again
	wantLifted(t, h, lift{0, 1, 4}, rec)
	wantLifted(t, h, lift{0, 1, 5}, rec, words(3, "é"))
	fits := record(words(1, long(most-8))) // b has three bytes
	wantLifted(t, h, lift{0, 1, 2}, fits, fits[0], yes(2))
	wantFault(t, h, lift{0, 1, 2}, api.ErrLong, words(1, long(most-7)))
	wantFault(t, h, lift{0, 2, 3}, api.ErrLong, words(1, long(most-7)), yes(2)) // what is handed in is no record of these bytes
	wantLifted(t, h, lift{0, 2, 3}, record(fits[0], yes(2)), fits...)
}

// TestJoinsOnTheWay: the text of a join is bounded at once, the record only at the end.
func TestJoinsOnTheWay(t *testing.T) {
	sep := strings.Repeat("-", 100)
	h := ofText(t, `event x { version 1 { add a: text; add b: text; } version 2 { join a, b with "`+sep+`" into c; } version 3 { drop c; add d: text = "n"; } }`)
	a := strings.Repeat("a", 8000000)
	b := func(n int) string { return strings.Repeat("b", n-100-len(a)) } // with which the join's text has n bytes
	wantLifted(t, h, lift{0, 1, 2}, record(words(1, a), words(2, b(most-5))), words(3, a+sep+b(most-5)))
	wantFault(t, h, lift{0, 1, 2}, api.ErrLong, words(1, a), words(2, b(most-4)))
	wantFault(t, h, lift{0, 1, 2}, api.ErrLong, words(1, a), words(2, b(most)))
	wantLifted(t, h, lift{0, 1, 3}, record(words(1, a), words(2, b(most))), words(4, "n")) // the record is too long in between
	wantFault(t, h, lift{0, 1, 3}, api.ErrLong, words(1, a), words(2, b(most+1)))          // the text is
	wantFault(t, h, lift{0, 1, 2}, api.ErrLong, words(1, a), words(2, b(most+1)))
}

// TestFarLongerOnTheWay: there is no bound to a record between, not of its fields together either.
func TestFarLongerOnTheWay(t *testing.T) {
	s := "event x { version 1 { add a: text; } version 2 { "
	var back strings.Builder
	for i := range 9000 { // of 4096 bytes each
		s += "add b" + strconv.Itoa(i) + `: text = rep("ab", 2048); `
		back.WriteString("drop b" + strconv.Itoa(i) + "; ")
	}
	h := ofText(t, s+"} version 3 { "+back.String()+"} }")
	rec := record(words(1, full()))
	out, err := step.Lift(h, 0, 1, 3, rec)
	if err != api.OK || !slices.Equal(out, rec) {
		t.Errorf("%s, %d", show(out), err)
	}
	if out, err := step.Lift(h, 0, 1, 2, record(words(1, "a"))); err != api.ErrLong || len(out) > 0 {
		t.Errorf("%s, %d", show(out), err)
	}
	if out, err := step.Lift(h, 0, 1, 3, record(words(1, "a"))); err != api.OK || !slices.Equal(out, record(words(1, "a"))) {
		t.Errorf("%s, %d", show(out), err)
	}
}

// Two errors at a time, in the chapter's order

func TestErrorsInTheirOrder(t *testing.T) {
	h := ofText(t, `event x { version 1 { add a: text; add b: text; } version 2 { retype b to uint; } version 3 { add c: bool = true; } version 4 { retype b to bool; } }`)
	fine, none, untyped := record(words(1, "a"), words(2, "1")), record(words(1, "a"), words(2, "x")), record(words(1, "a"))
	tooLong, longNone := record(words(1, full()), words(2, "1")), record(words(1, full()), words(2, "x"))
	longUntyped := record(words(1, full()), words(2, "1"), yes(3))
	edge := long(most - 8) // with b at its shortest, the greatest record
	bads := [][]api.Field{none, untyped, tooLong, longNone, longUntyped, nil, {number(0, 0)}, {words(1, "a"), words(2, "\xff")}}

	wantLifted(t, h, lift{0, 1, 4}, fine, words(1, "a"), yes(2), yes(3))
	for _, rec := range append(bads, fine) { // 1 ahead of all others; ErrType ahead of ErrVersion
		wantFault(t, h, lift{1, 0, 9}, api.ErrType, rec...)
		wantFault(t, h, lift{-1, 1, 4}, api.ErrType, rec...)
		wantFault(t, h, lift{1, 4, 1}, api.ErrType, rec...)
		wantFault(t, h, lift{0, 0, 4}, api.ErrVersion, rec...)
		wantFault(t, h, lift{0, 1, 5}, api.ErrVersion, rec...)
		wantFault(t, h, lift{0, 5, 0}, api.ErrVersion, rec...)
		wantFault(t, h, lift{0, 2, 1}, api.ErrVersion, rec...)
		wantFault(t, h, lift{0, 4, 3}, api.ErrVersion, rec...)
	}
	wantFault(t, h, lift{0, 1, 4}, api.ErrTyped, longUntyped...) // 2: ErrTyped ahead of ErrLong
	wantFault(t, h, lift{0, 1, 1}, api.ErrTyped, longUntyped...)
	wantFault(t, h, lift{0, 1, 4}, api.ErrTyped, words(1, "\xff"), words(2, "x")) // 2 ahead of 3
	wantFault(t, h, lift{0, 1, 4}, api.ErrTyped, words(1, "a"), words(2, "x"), yes(3))
	wantFault(t, h, lift{0, 1, 4}, api.ErrLong, longNone...)
	wantFault(t, h, lift{0, 1, 2}, api.ErrLong, longNone...)
	wantFault(t, h, lift{0, 1, 3}, api.ErrTyped, words(1, edge), words(2, "\xff")) // 2 ahead of 4
	wantLifted(t, h, lift{0, 1, 2}, record(words(1, edge), words(2, "1")), words(1, edge), number(2, 1))
	wantFault(t, h, lift{0, 1, 3}, api.ErrLong, words(1, edge), words(2, "1"))   // 4 alone
	wantFault(t, h, lift{0, 1, 4}, api.ErrRange, words(1, edge), words(2, "2"))  // 3 ahead of 4, though its step comes behind the one that made it long
	wantFault(t, h, lift{0, 1, 3}, api.ErrNumber, words(1, edge), words(2, "x")) // and ahead of it
	wantFault(t, h, lift{0, 1, 4}, api.ErrLong, words(1, edge), words(2, "1"))   // 4 alone, behind the last step
	wantFault(t, h, lift{0, 1, 4}, api.ErrNumber, none...)                       // 3 of two
}

// TestAJoinsErrorIsAStepsError: ErrLong of a join is told in the order of the steps.
func TestAJoinsErrorIsAStepsError(t *testing.T) {
	sep := strings.Repeat("-", 100)
	join, retype := `join a, b with "`+sep+`" into d; `, "retype c to uint; "
	rec := func(s string) []api.Field { return record(words(1, long(most-100)), words(2, ""), words(3, s)) }
	tooLong := func(s string) []api.Field { return record(words(1, long(most-99)), words(2, ""), words(3, s)) }
	for _, between := range []string{"", "} version 3 { "} {
		head := "event x { version 1 { add a: text; add b: text; add c: text; } version 2 { "
		h := ofText(t, inOrder(head+join+between+retype+"drop d; } }"))
		n := len(h.Types[0].Versions)
		wantLifted(t, h, lift{0, 1, n}, rec("5"), number(3, 5))
		wantFault(t, h, lift{0, 1, n}, api.ErrNumber, rec("x")...)
		wantFault(t, h, lift{0, 1, n}, api.ErrLong, tooLong("5")...)
		wantFault(t, h, lift{0, 1, n}, api.ErrLong, tooLong("x")...)
		h = ofText(t, inOrder(head+retype+between+join+"drop d; } }"))
		wantLifted(t, h, lift{0, 1, n}, rec("5"), number(3, 5))
		wantFault(t, h, lift{0, 1, n}, api.ErrNumber, rec("x")...)
		wantFault(t, h, lift{0, 1, n}, api.ErrLong, tooLong("5")...)
		wantFault(t, h, lift{0, 1, n}, api.ErrNumber, tooLong("x")...)
	}
}

// Many steps

func TestManyColumnsAndSteps(t *testing.T) {
	const n = 10000
	var first, second, third strings.Builder
	var rec, want []api.Field
	for i := range n {
		c := "c" + strconv.Itoa(i)
		first.WriteString("add " + c + ": text; ")
		second.WriteString("retype " + c + " to uint; ")
		third.WriteString("split d" + strconv.Itoa(i) + ` at "," into e` + strconv.Itoa(i) + ", d" + strconv.Itoa(i+1) + "; drop " + c + "; ")
		rec = append(rec, words(i+1, strconv.Itoa(i)))
		want = append(want, number(i+1, uint64(i)))
	}
	h := ofText(t, "event x { version 1 { "+first.String()+" } version 2 { "+second.String()+`add d0: text = "a,b,c"; } version 3 { `+third.String()+"} }")
	want = append(want, words(n+1, "a,b,c"))
	if out, err := step.Lift(h, 0, 1, 2, rec); err != api.OK || !slices.Equal(out, want) {
		t.Errorf("%s, %d", show(out), err)
	}
	var parts []api.Field
	for i := range n {
		parts = append(parts, words(n+2+2*i, append([]string{"a", "b", "c"}, make([]string, n)...)[i]))
	}
	parts = append(parts, words(n+1+2*n, ""))
	for _, l := range []lift{{0, 1, 3}, {0, 2, 3}} {
		if out, err := step.Lift(h, 0, l.from, 3, [][]api.Field{rec, want}[l.from-1]); err != api.OK || !slices.Equal(out, parts) {
			t.Errorf("from %d: %s, %d", l.from, show(out), err)
		}
	}
	rec[n-1] = words(n, "x")
	if out, err := step.Lift(h, 0, 1, 3, rec); err != api.ErrNumber || len(out) > 0 {
		t.Errorf("%s, %d", show(out), err)
	}
}

func TestManyVersions(t *testing.T) {
	const n = 65536
	typ := api.Type{Name: "x"}
	for i := range n {
		v := api.Version{Columns: []api.Column{{Name: "a", Tag: 1, Kind: []int{unsigned, text}[i%2]}}}
		switch {
		case i == 0:
			v.Steps = []api.Step{{Kind: api.StepAdd, A: 1}}
		case i%2 == 1:
			v.Steps = []api.Step{retype(1, uintText)}
		default:
			v.Steps = []api.Step{retype(1, textUint)}
		}
		typ.Versions = append(typ.Versions, v)
	}
	h := api.History{Types: []api.Type{typ}}
	if !check.Valid(h) {
		t.Fatal("the history isn't valid")
	}
	for _, l := range []lift{{0, 1, n}, {0, 1, n - 1}, {0, 2, n}, {0, n - 1, n}, {0, n, n}, {0, n, 1}, {0, 1, n + 1}} {
		for _, rec := range [][]api.Field{{number(1, 7)}, {words(1, "007")}, {words(1, "x")}} {
			want, wantErr := plainLift(h, l.typ, l.from, l.to, rec)
			wantLift(t, h, l, rec, want, wantErr)
		}
	}
}

// In two parts and at once

// wantInTwoParts looks that Lift from u to v, and from there to w, is Lift from u to w.
func wantInTwoParts(t *testing.T, h api.History, typ int, u int, v int, w int, rec []api.Field) {
	t.Helper()
	atOnce, atOnceErr := step.Lift(h, typ, u, w, rec)
	first, firstErr := step.Lift(h, typ, u, v, rec)
	if firstErr != api.OK {
		if atOnceErr != firstErr || len(atOnce) > 0 {
			t.Errorf("Lift of %s from %d to %d: %d, to %d: %d", show(rec), u, v, firstErr, w, atOnceErr)
		}
		return
	}
	second, secondErr := step.Lift(h, typ, v, w, first)
	if secondErr != atOnceErr || !slices.Equal(second, atOnce) {
		t.Errorf("Lift of %s by %d, %d, %d: %s, %d, at once %s, %d", show(rec), u, v, w, show(second), secondErr, show(atOnce), atOnceErr)
	}
}

func TestInTwoParts(t *testing.T) {
	h := ofText(t, many)
	recs := [][]api.Field{ // some that can be lifted to the end, and some that can't
		{words(1, "x,y,z"), rawBytes(2, "\xff"), number(3, 42), whole(4, 9), yes(5)},
		{words(1, "x,y,z"), rawBytes(2, "\xff"), number(3, 42), whole(4, -9), yes(5)},
		{words(1, ""), rawBytes(2, ""), number(3, 1<<64-1), whole(4, 0), no(5)},
		{words(1, ""), rawBytes(2, ""), number(3, 1<<64-1), whole(4, 0)},
	}
	for _, rec := range recs {
		for u := 1; u <= 5; u++ {
			for v := u; v <= 5; v++ {
				for w := v; w <= 5; w++ {
					wantInTwoParts(t, h, 1, u, v, w, rec)
				}
			}
		}
	}
	h = ofText(t, longer)
	for _, x := range []string{"5", "x"} {
		for _, y := range []string{"true", "x"} {
			for v := 1; v <= 4; v++ {
				for w := v; w <= 4; w++ {
					wantInTwoParts(t, h, 0, 1, v, w, record(words(1, x), words(2, y)))
				}
			}
		}
	}
}

// ErrLong apart: what is too long in between for two parts may be lifted at once.
func TestErrLongApart(t *testing.T) {
	h := ofText(t, `event x { version 1 { add a: text; } version 2 { add b: bool = true; } version 3 { drop b; } }`)
	rec := record(words(1, full()))
	wantFault(t, h, lift{0, 1, 2}, api.ErrLong, rec...)
	wantLifted(t, h, lift{0, 1, 3}, rec, rec...)
}
