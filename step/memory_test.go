package step_test

import (
	"fmt"
	"reflect"
	"slices"
	"strings"
	"testing"
	"unsafe"

	"stratum/api"
	"stratum/step"
)

// P14.5

// spare is what stands in the spare room of lists that are handed in.
func spare() []api.Field {
	return []api.Field{words(3, "spare"), number(70000, 9), {Tag: -1}}
}

// withRoom is a list with spare room.
func withRoom(rec []api.Field) []api.Field {
	return slices.Concat(rec, spare())[: len(rec) : len(rec)+len(spare())]
}

// allOf is a list with its spare room.
func allOf[T any](l []T) []T { return l[:cap(l)] }

// wholeOf is all that stands in a history and in the spare room of its lists.
func wholeOf(h api.History) string {
	var out strings.Builder
	fmt.Fprintf(&out, "%d %d\n", len(h.Types), cap(h.Types))
	for _, t := range allOf(h.Types) {
		fmt.Fprintf(&out, "%q %d %d\n", t.Name, len(t.Versions), cap(t.Versions))
		for _, v := range allOf(t.Versions) {
			fmt.Fprintf(&out, "%#v %d\n%#v %d\n", allOf(v.Steps), len(v.Steps), allOf(v.Columns), len(v.Columns))
		}
	}
	return out.String()
}

// roomy is a history whose lists have spare room.
func roomy(h api.History) api.History {
	out := api.History{Types: append(slices.Clone(h.Types), api.Type{Name: "spare"})[:len(h.Types)]}
	for i, t := range out.Types {
		vs := append(slices.Clone(t.Versions), api.Version{Steps: []api.Step{drop(1)}})[:len(t.Versions)]
		for j, v := range vs {
			vs[j].Steps = append(slices.Clone(v.Steps), drop(1), api.Step{Kind: 9})[:len(v.Steps)]
			vs[j].Columns = append(slices.Clone(v.Columns), api.Column{Name: "spare", Tag: 3, Kind: text})[:len(v.Columns)]
		}
		out.Types[i].Versions = vs
	}
	return out
}

// overlap: whether two lists have memory in common, their spare room too.
func overlap(a []api.Field, b []api.Field) bool {
	reach := func(l []api.Field) (uintptr, uintptr) {
		from := reflect.ValueOf(l).Pointer()
		return from, from + uintptr(cap(l))*unsafe.Sizeof(api.Field{})
	}
	from, to := reach(a)
	otherFrom, otherTo := reach(b)
	return from < otherTo && otherFrom < to
}

// oneText: whether two texts have memory in common. (Those of a byte or none the machine may keep once for all.)
func oneText(a string, b string) bool {
	if len(a) < 2 || len(b) < 2 {
		return false
	}
	from, other := uintptr(unsafe.Pointer(unsafe.StringData(a))), uintptr(unsafe.Pointer(unsafe.StringData(b)))
	return from < other+uintptr(len(b)) && other < from+uintptr(len(a))
}

// wantApart looks that two lists share no memory, their texts neither.
func wantApart(t *testing.T, what string, a []api.Field, b []api.Field) {
	t.Helper()
	if overlap(a, b) {
		t.Errorf("%s: %s and %s share memory", what, show(a), show(b))
	}
	for _, x := range a {
		for _, y := range b {
			if oneText(x.Val.S, y.Val.S) {
				t.Errorf("%s: %s and %s share the memory of a text", what, show(x), show(y))
			}
		}
	}
}

// applied are calls of Apply that answer a record, and some that don't.
func applied() []struct {
	s   api.Step
	rec []api.Field
} {
	type call = struct {
		s   api.Step
		rec []api.Field
	}
	some := func() []api.Field {
		return withRoom(record(words(1, strings.Clone("a text, cut")), rawBytes(2, strings.Clone("raw bytes")), words(7, strings.Clone("another one")), words(8, "7")))
	}
	var all []call
	for _, s := range []api.Step{
		add(words(6, strings.Clone("a default"))), add(rawBytes(9, strings.Clone("more bytes"))), rename(1), rename(8), split(1, ",", 5, 6), split(1, "x,", 6, 5), split(1, "nowhere", 9, 10),
		split(1, "a text, cut", 9, 10), join(1, 7, "", 9), join(7, 1, "--", 3), retype(1, textBytes), retype(2, bytesText), retype(8, textUint), drop(1), drop(8),
		{}, add(words(1, "x")), add(words(6, "\xff")), rename(6), split(2, ",", 5, 6), join(1, 1, "", 9), retype(1, textUint), retype(1, textInt), retype(1, textBool), drop(6), {Kind: 7},
	} {
		all = append(all, call{s, some()}, call{s, slices.Clip(some())}, call{s, some()[:1]}, call{s, withRoom(nil)}, call{s, nil})
	}
	return all
}

func TestApplyLeavesWhatIsHandedIn(t *testing.T) {
	for _, c := range applied() {
		was, length := slices.Clone(allOf(c.rec)), len(c.rec)
		first, firstErr := step.Apply(c.s, c.rec)
		if !slices.Equal(allOf(c.rec), was) {
			t.Errorf("Apply(%s): %s became %s", show(c.s), show(was), show(allOf(c.rec)))
		}
		second, secondErr := step.Apply(c.s, c.rec)
		if firstErr != secondErr || !slices.Equal(first, second) {
			t.Errorf("Apply(%s): %s, %d, then %s, %d", show(c.s), show(first), firstErr, show(second), secondErr)
		}
		want := slices.Clone(second)
		wantApart(t, show(c.s), first, c.rec)
		wantApart(t, show(c.s), first, second)
		wantApart(t, show(c.s), first, record(api.Field{Val: c.s.Val}, words(1, c.s.Sep)))
		for i := range allOf(first) {
			allOf(first)[i] = number(-9, 9)
		}
		if !slices.Equal(allOf(c.rec), was) || !slices.Equal(second, want) || len(c.rec) != length {
			t.Errorf("Apply(%s): what is written into its answer is to be seen elsewhere", show(c.s))
		}
		clear(allOf(c.rec))
		if !slices.Equal(second, want) {
			t.Errorf("Apply(%s): %s became %s", show(c.s), show(want), show(second))
		}
	}
}

func TestApplyDoesNotLookAtSpareRoom(t *testing.T) {
	rec := withRoom(record(words(1, "a"))) // behind its end a field 3 stands, and ones that can't be
	wantDone(t, add(yes(3)), rec, words(1, "a"), yes(3))
	wantRefused(t, drop(3), rec...)
	wantApply(t, rename(3), rec, nil, api.ErrTyped)
	wantApply(t, drop(3), rec, nil, api.ErrTyped)
	wantApply(t, join(1, 3, "", 4), rec, nil, api.ErrTyped)
	wantApply(t, drop(3), withRoom(nil), nil, api.ErrTyped)
}

func TestTextsOfOneAnswerShareNothing(t *testing.T) {
	out, _ := step.Apply(split(1, "--", 2, 3), record(words(1, "a head--a tail")))
	if len(out) != 2 || oneText(out[0].Val.S, out[1].Val.S) {
		t.Error(show(out))
	}
	s := strings.Clone("one text at two tags")
	out, _ = step.Apply(add(words(3, s)), record(words(1, s), rawBytes(2, s)))
	for i := range out {
		for j := range i {
			if oneText(out[i].Val.S, out[j].Val.S) || oneText(out[i].Val.S, s) {
				t.Errorf("%s: %d and %d", show(out), i, j)
			}
		}
	}
}

// lifted are calls of Lift that answer a record, and some that don't.
func lifted() []struct {
	lift
	rec []api.Field
} {
	type call = struct {
		lift
		rec []api.Field
	}
	long := func() []api.Field {
		return record(words(1, strings.Clone("a first,and a second")), rawBytes(2, strings.Clone("raw bytes")), number(3, 42), whole(4, 9), yes(5))
	}
	bad := long()
	bad[3] = whole(4, -9)
	var all []call
	for _, rec := range [][]api.Field{long(), bad, long()[:2], nil, {number(1, 7)}} {
		for typ := -1; typ <= 2; typ++ {
			for from := 0; from <= 2; from++ {
				for to := 0; to <= 6; to++ {
					all = append(all, call{lift{typ, from, to}, withRoom(rec)}, call{lift{typ, from, to}, slices.Clip(rec)})
				}
			}
		}
	}
	return all
}

func TestLiftLeavesWhatIsHandedIn(t *testing.T) {
	h := roomy(ofText(t, many))
	whole := wholeOf(h)
	answered := 0
	for _, c := range lifted() {
		was := slices.Clone(allOf(c.rec))
		first, firstErr := step.Lift(h, c.typ, c.from, c.to, c.rec)
		second, secondErr := step.Lift(h, c.typ, c.from, c.to, c.rec)
		if firstErr != secondErr || !slices.Equal(first, second) {
			t.Errorf("Lift(%v, %s): %s, %d, then %s, %d", c.lift, show(c.rec), show(first), firstErr, show(second), secondErr)
		}
		if firstErr == api.OK {
			answered++
		}
		want := slices.Clone(second)
		wantApart(t, "Lift", first, c.rec)
		wantApart(t, "Lift", first, second)
		for i := range allOf(first) {
			allOf(first)[i] = number(-9, 9)
		}
		if !slices.Equal(allOf(c.rec), was) || !slices.Equal(second, want) {
			t.Errorf("Lift(%v, %s): what is written into its answer is to be seen elsewhere", c.lift, show(was))
		}
		if now := wholeOf(h); now != whole {
			t.Fatalf("Lift(%v, %s): %s became %s", c.lift, show(was), show(whole), show(now))
		}
	}
	if answered < 10 {
		t.Errorf("only %d calls answered a record", answered)
	}
}

// TestLiftKeepsNoTextOfTheHistory: a default is new memory in each answer, also where no step touches it behind.
func TestLiftKeepsNoTextOfTheHistory(t *testing.T) {
	h := ofText(t, `event x { version 1 { add a: text; } version 2 { add b: text = "a default"; add c: bytes = hex("00112233"); } version 3 { rename b to d; } }`)
	rec := record(words(1, strings.Clone("a text")))
	var defaults []api.Field
	for _, s := range h.Types[0].Versions[1].Steps {
		defaults = append(defaults, api.Field{Val: s.Val})
	}
	for to := 1; to <= 3; to++ {
		first, _ := step.Lift(h, 0, 1, to, rec)
		second, _ := step.Lift(h, 0, 1, to, rec)
		if len(first) == 0 {
			t.Fatalf("to %d: nothing", to)
		}
		wantApart(t, "Lift", first, rec)
		wantApart(t, "Lift", first, defaults)
		wantApart(t, "Lift", first, second)
	}
}

// TestLiftDoesNotLookAtSpareRoom: neither at that of the record nor at that of the history's lists.
func TestLiftDoesNotLookAtSpareRoom(t *testing.T) {
	h := roomy(ofText(t, `event x { version 1 { add a: text; } version 2 { add b: bool = true; } }`))
	rec := withRoom(record(words(1, "a")))
	wantLifted(t, h, lift{0, 1, 1}, rec, words(1, "a"))
	wantLifted(t, h, lift{0, 1, 2}, rec, words(1, "a"), yes(2))
	wantFault(t, h, lift{0, 1, 3}, api.ErrVersion, rec...)
	wantFault(t, h, lift{1, 1, 1}, api.ErrType, rec...)
}
