package check_test

import (
	"fmt"
	"reflect"
	"slices"
	"strconv"
	"strings"
	"testing"

	"stratum/api"
	"stratum/check"
)

// P12.2: the examples of the chapter

func TestValidOfTheChapter(t *testing.T) {
	wantValid(t, typed(ver(done(added(1), added(2), dropped(1)), cols(col("a", 2, 1)))), true)
	a := ver(done(added(1)), cols(col("a", 1, 1)))
	later := addedAs(2, uintOf(0))
	wantValid(t, typed(a, ver(done(later, dropped(1)), cols(col("a", 2, 1)))), false)
	wantValid(t, typed(a, ver(done(dropped(1), later), cols(col("a", 2, 1)))), true)
	wantValid(t, typed(a, ver(done(later, dropped(1), renamed(2)), cols(col("a", 2, 1)))), true)
}

// P12.2: types and versions

func TestTypesThatCanBe(t *testing.T) {
	none := []api.Version{{}}
	wantValid(t, api.History{}, true)
	wantValid(t, types(), true)
	wantValid(t, api.History{Types: []api.Type{}}, true)
	wantValid(t, types(api.Type{Name: "a", Versions: none}), true)
	wantValid(t, types(api.Type{Name: "a", Versions: []api.Version{{Steps: []api.Step{}, Columns: []api.Column{}}}}), true)
	wantValid(t, types(api.Type{Name: "a"}), false)
	wantValid(t, types(api.Type{Name: "a", Versions: []api.Version{}}), false)
	wantValid(t, types(api.Type{}), false)
	wantValid(t, types(api.Type{Name: "b", Versions: none}, api.Type{Name: "a", Versions: none}, api.Type{Name: "B", Versions: none}), true)
	wantValid(t, types(api.Type{Name: "b", Versions: none}, api.Type{Name: "a", Versions: none}, api.Type{Name: "b", Versions: none}), false)
	wantValid(t, types(api.Type{Name: "b", Versions: none}, api.Type{Name: "a"}), false)
	wantValid(t, types(api.Type{Name: "b"}, api.Type{Name: "a", Versions: none}), false)
	for _, name := range badNames() {
		wantValid(t, types(api.Type{Name: name, Versions: none}), false)
		wantValid(t, types(api.Type{Name: "a", Versions: none}, api.Type{Name: name, Versions: none}), false)
		one := added(1)
		wantValid(t, typed(ver(done(one), cols(col(name, 1, 1)))), false)
		wantValid(t, typed(ver(done(one, added(2)), cols(col("a", 1, 1), col(name, 2, 1)))), false)
		wantValid(t, typed(ver(done(one), cols(col("a", 1, 1))), ver(done(renamed(1)), cols(col(name, 1, 1)))), false)
	}
	for _, name := range []string{"_", "Z9", "uint", "Event", "events", "typed", times("n", 64)} {
		wantValid(t, types(api.Type{Name: name, Versions: none}), true)
		wantValid(t, typed(ver(done(added(1)), cols(col(name, 1, 1)))), true)
		wantValid(t, types(api.Type{Name: name, Versions: none}, api.Type{Name: name, Versions: none}), false)
		wantValid(t, typed(ver(done(added(1), added(2)), cols(col(name, 1, 1), col(name, 2, 1)))), false)
	}
	for i := range 1024 { // not in the last types and versions alone
		many := types()
		for j := range 1 + i%5 {
			many.Types = append(many.Types, api.Type{Name: "t" + strconv.Itoa(j), Versions: make([]api.Version, 1+(i+j)%3)})
		}
		wantValid(t, many, true)
		at := &many.Types[i%len(many.Types)]
		at.Versions[i%len(at.Versions)].Columns = cols(col("a", 1, 1))
		wantValid(t, many, false)
	}
}

func TestLimitsOfHistories(t *testing.T) {
	none := make([]api.Version, 65537)
	var many []api.Type
	for i := range 1025 {
		many = append(many, api.Type{Name: fmt.Sprintf("t%d", i), Versions: none[:1]})
	}
	wantValid(t, types(many[:1023]...), true)
	wantValid(t, types(many[:1024]...), true)
	wantValid(t, types(many...), false)
	full := api.Type{Name: "full", Versions: none[:65536]}
	wantValid(t, types(full, many[0], api.Type{Name: "e", Versions: none[:65536]}), true)
	wantValid(t, types(many[0], api.Type{Name: "full", Versions: none}), false)
	a := cols(col("a", 1, 1))
	d := done(added(1))
	for len(d) < 65537 {
		d = append(d, renamed(1))
	}
	wantAtLimit := func(h api.History, want bool) {
		t.Helper()
		if got := check.Valid(h); got != want {
			t.Errorf("%v of %s", got, shown(h))
		}
	}
	wantAtLimit(typed(ver(d[:65536], a)), true)
	wantAtLimit(typed(ver(d, a)), false)
	wantAtLimit(typed(ver(d[:1], a), ver(d[1:40000], a), ver(nil, a), ver(d[40000:65536], a)), true)
	wantAtLimit(typed(ver(d[:1], a), ver(d[1:40000], a), ver(nil, a), ver(d[40000:], a)), false)
	e, f := typed(ver(d[:65536], a)).Types[0], typed(ver(d[:65536], a)).Types[0]
	f.Name = "f"
	wantAtLimit(types(e, f), true)
	first := ver(nil, nil)
	for tag := 1; tag <= 1024; tag++ {
		first.Steps, first.Columns = append(first.Steps, added(tag)), append(first.Columns, col(fmt.Sprintf("n%d", tag), tag, 1))
	}
	cells := api.Type{Name: "e", Versions: slices.Repeat([]api.Version{ver(nil, first.Columns)}, 1024)}
	cells.Versions[0] = first
	more := api.Type{Name: "f", Versions: []api.Version{{}, ver(done(addedAs(1, uintOf(1))), a)}}
	wantAtLimit(types(cells), true)
	wantAtLimit(types(cells, api.Type{Name: "f", Versions: []api.Version{{}, {}}}), true)
	wantAtLimit(types(cells, more), false)
	wantAtLimit(types(more, cells), false)
	cells.Versions = slices.Clone(cells.Versions)
	cells.Versions[1023] = ver(done(dropped(5)), slices.Delete(slices.Clone(first.Columns), 4, 5))
	wantAtLimit(types(cells, more), true)
	more.Versions = append(more.Versions, ver(nil, a))
	wantAtLimit(types(cells, more), false)
}

func TestTagsUpToTheGreatest(t *testing.T) {
	v := ver(nil, nil)
	for tag := 1; tag <= 65536; tag++ {
		v.Steps, v.Columns = append(v.Steps, added(tag)), append(v.Columns, col(fmt.Sprintf("n%d", tag), tag, 4))
	}
	upTo := func(tag int, more ...api.Version) api.History {
		return typed(append([]api.Version{ver(v.Steps[:tag], v.Columns[:tag])}, more...)...)
	}
	behind := func(from int, tag int, more ...api.Column) []api.Column {
		return append(slices.Clone(v.Columns[from:tag]), more...)
	}
	y, z := func(tag int) api.Column { return col("y", tag, 4) }, func(tag int) api.Column { return col("z", tag, 4) }
	for i, row := range []struct {
		h    api.History
		want bool
	}{
		{upTo(65534), true}, {upTo(65535), true}, {upTo(65536), false},
		{upTo(65534, ver(done(addedAs(65535, textOf(""))), behind(0, 65534, z(65535)))), true}, {upTo(65535, ver(done(addedAs(65536, textOf(""))), behind(0, 65535, z(65536)))), false},
		{upTo(65535, ver(done(addedAs(65535, textOf(""))), behind(0, 65535))), false}, {upTo(65535, ver(done(addedAs(0, textOf(""))), behind(0, 65535))), false}, {upTo(65535, ver(done(addedAs(1, textOf(""))), behind(0, 65535))), false},
		{upTo(65534, ver(done(joined(2, 1, "", 65535)), behind(2, 65534, z(65535)))), true}, {upTo(65535, ver(done(joined(2, 1, "", 65536)), behind(2, 65535, z(65536)))), false},
		{upTo(65533, ver(done(splitAt(1, ",", 65534, 65535)), behind(1, 65533, y(65534), z(65535)))), true}, {upTo(65534, ver(done(splitAt(1, ",", 65535, 65536)), behind(1, 65534, y(65535), z(65536)))), false}, {upTo(65535, ver(done(splitAt(1, ",", 65536, 65537)), behind(1, 65535, y(65536), z(65537)))), false},
		{upTo(65535, ver(done(dropped(1)), behind(1, 65535))), true}, {upTo(65535, ver(done(renamed(1)), append(cols(z(1)), behind(1, 65535)...))), true},
	} {
		if got := check.Valid(row.h); got != row.want {
			t.Errorf("row %d: %v", i, got)
		}
	}
}

func TestTagsAreNotGivenBack(t *testing.T) {
	v := ver(done(added(1)), nil) // half as many steps as tags
	for tag := 2; tag <= 65534; tag += 2 {
		v.Steps = append(v.Steps, splitAt(max(1, tag-2), ",", tag, tag+1))
		v.Columns = append(v.Columns, col(fmt.Sprintf("n%d", tag), tag+1, 4))
	}
	v.Columns = slices.Insert(v.Columns, len(v.Columns)-1, col("last", 65534, 4))
	gone := ver(done(dropped(3), dropped(5), dropped(65534), dropped(65535)), v.Columns[2:len(v.Columns)-2])
	for _, h := range []api.History{typed(v), typed(v, gone), typed(v, gone, ver(nil, gone.Columns))} {
		if !check.Valid(h) {
			t.Error("refused")
		}
	}
	for _, tag := range []int{0, 1, 2, 3, 5, 65534, 65535, 65536} {
		more := slices.Clone(gone.Columns)
		at, _ := slices.BinarySearchFunc(more, tag, func(c api.Column, tag int) int { return c.Tag - tag })
		if check.Valid(typed(v, gone, ver(done(addedAs(tag, textOf(""))), slices.Insert(more, at, col("z", tag, 4))))) {
			t.Errorf("%d is used again", tag)
		}
	}
}

// P12.2: steps

// texts is a first version with three texts, a, b and c.
func texts() api.Version {
	return ver(done(added(1), added(2), added(3)), cols(col("a", 1, 4), col("b", 2, 4), col("c", 3, 4)))
}

func TestStepsThatCanBe(t *testing.T) {
	a, b, c := col("a", 1, 4), col("b", 2, 4), col("c", 3, 4)
	for _, row := range []struct {
		d    []api.Step
		c    []api.Column
		want bool
	}{
		{nil, cols(a, b, c), true},
		{done(addedAs(4, uintOf(7))), cols(a, b, c, col("d", 4, 1)), true}, {done(renamed(1)), cols(col("d", 1, 4), b, c), true}, {done(dropped(2)), cols(a, c), true}, {done(retyped(3, 5)), cols(a, b, col("c", 3, 1)), true},
		{done(splitAt(1, ",", 4, 5)), cols(b, c, col("d", 4, 4), col("e", 5, 4)), true}, {done(joined(1, 2, ",", 4)), cols(c, col("d", 4, 4)), true}, {done(joined(3, 1, "", 4)), cols(b, col("d", 4, 4)), true},
		// kinds that are none
		{done(api.Step{}), cols(a, b, c), false}, {done(api.Step{Kind: 7}), cols(a, b, c), false}, {done(api.Step{Kind: -1}), cols(a, b, c), false}, {done(api.Step{Kind: 0, A: 1}), cols(a, b, c), false}, {done(api.Step{Kind: 7, A: 1}), cols(b, c), false}, {done(api.Step{Kind: 1<<32 + 6, A: 1}), cols(b, c), false}, {done(api.Step{Kind: 256 + 6, A: 1}), cols(b, c), false}, {done(api.Step{Kind: 1<<63 - 1, A: 1}), cols(b, c), false}, {done(api.Step{Kind: -1 << 63, A: 1}), cols(b, c), false},
		// columns that aren't there
		{done(dropped(0)), cols(a, b, c), false}, {done(dropped(4)), cols(a, b, c), false}, {done(dropped(-1)), cols(a, b, c), false}, {done(dropped(-1 << 63)), cols(a, b, c), false}, {done(dropped(1<<63 - 1)), cols(a, b, c), false}, {done(dropped(1 << 32)), cols(a, b, c), false}, {done(dropped(1<<32 + 1)), cols(b, c), false}, {done(dropped(65536 + 1)), cols(b, c), false},
		{done(dropped(1), dropped(1)), cols(b, c), false}, {done(renamed(4)), cols(a, b, c), false}, {done(renamed(0)), cols(a, b, c), false}, {done(dropped(1), renamed(1)), cols(b, c), false}, {done(renamed(1), dropped(1)), cols(b, c), true},
		{done(retyped(4, 5)), cols(a, b, c), false}, {done(retyped(0, 5)), cols(a, b, c), false}, {done(dropped(1), retyped(1, 5)), cols(b, c), false},
		{done(splitAt(4, ",", 4, 5)), cols(a, b, c, col("d", 4, 4), col("e", 5, 4)), false}, {done(splitAt(5, ",", 4, 5)), cols(a, b, c, col("d", 4, 4)), false}, {done(splitAt(0, ",", 4, 5)), cols(a, b, c, col("d", 4, 4), col("e", 5, 4)), false}, {done(dropped(1), splitAt(1, ",", 4, 5)), cols(b, c, col("d", 4, 4), col("e", 5, 4)), false},
		{done(joined(1, 1, ",", 4)), cols(b, c, col("d", 4, 4)), false}, {done(joined(1, 0, ",", 4)), cols(b, c, col("d", 4, 4)), false}, {done(joined(0, 1, ",", 4)), cols(b, c, col("d", 4, 4)), false}, {done(joined(1, 4, ",", 4)), cols(b, c, col("d", 4, 4)), false}, {done(joined(4, 1, ",", 4)), cols(b, c, col("d", 4, 4)), false},
		{done(dropped(1), joined(1, 2, ",", 4)), cols(c, col("d", 4, 4)), false}, {done(dropped(1), joined(2, 1, ",", 4)), cols(c, col("d", 4, 4)), false}, {done(joined(1, 2, ",", 4), joined(1, 3, ",", 5)), cols(col("d", 5, 4)), false}, {done(joined(1, 2, ",", 4), joined(4, 3, ",", 5)), cols(col("d", 5, 4)), true},
		// tags that aren't the next
		{done(addedAs(5, uintOf(7))), cols(a, b, c, col("d", 5, 1)), false}, {done(addedAs(3, uintOf(7))), cols(a, b, c), false}, {done(addedAs(3, uintOf(7))), cols(a, b, col("c", 3, 1)), false}, {done(addedAs(0, uintOf(7))), cols(a, b, c), false}, {done(addedAs(-1, uintOf(7))), cols(a, b, c), false}, {done(addedAs(1<<32+4, uintOf(7))), cols(a, b, c, col("d", 4, 1)), false},
		{done(dropped(3), addedAs(3, uintOf(7))), cols(a, b, col("c", 3, 1)), false}, {done(dropped(3), addedAs(4, uintOf(7))), cols(a, b, col("c", 4, 1)), true}, {done(addedAs(5, uintOf(7)), addedAs(4, uintOf(7))), cols(a, b, c, col("d", 4, 1), col("e", 5, 1)), false}, {done(addedAs(4, uintOf(7)), addedAs(4, uintOf(7))), cols(a, b, c, col("d", 4, 1)), false}, {done(addedAs(4, uintOf(7)), addedAs(5, uintOf(7))), cols(a, b, c, col("d", 4, 1), col("e", 5, 1)), true},
		{done(splitAt(1, ",", 5, 4)), cols(b, c, col("d", 4, 4), col("e", 5, 4)), false}, {done(splitAt(1, ",", 4, 4)), cols(b, c, col("d", 4, 4)), false}, {done(splitAt(1, ",", 5, 6)), cols(b, c, col("d", 5, 4), col("e", 6, 4)), false}, {done(splitAt(1, ",", 4, 6)), cols(b, c, col("d", 4, 4), col("e", 6, 4)), false}, {done(splitAt(1, ",", 1, 4)), cols(a, b, c, col("e", 4, 4)), false}, {done(splitAt(1, ",", 4, 1)), cols(a, b, c, col("e", 4, 4)), false}, {done(splitAt(1, ",", 3, 4)), cols(b, c, col("e", 4, 4)), false},
		{done(joined(1, 2, ",", 5)), cols(c, col("d", 5, 4)), false}, {done(joined(1, 2, ",", 1)), cols(a, c), false}, {done(joined(1, 2, ",", 3)), cols(c), false}, {done(joined(1, 2, ",", 0)), cols(c), false},
		{done(splitAt(1, ",", 4, 5), splitAt(4, ",", 6, 7), joined(7, 5, ",", 8), addedAs(9, boolOf(1))), cols(b, c, col("d", 6, 4), col("e", 8, 4), col("f", 9, 3)), true},
		// kinds
		{done(retyped(1, 5), splitAt(1, ",", 4, 5)), cols(b, c, col("d", 4, 4), col("e", 5, 4)), false}, {done(retyped(1, 5), joined(1, 2, ",", 4)), cols(c, col("d", 4, 4)), false}, {done(retyped(1, 5), joined(2, 1, ",", 4)), cols(c, col("d", 4, 4)), false}, {done(retyped(1, 5), retyped(1, 3), joined(2, 1, ",", 4)), cols(c, col("d", 4, 4)), true},
		{done(retyped(1, 11), retyped(1, 12), splitAt(1, ",", 4, 5)), cols(b, c, col("d", 4, 4), col("e", 5, 4)), true}, {done(addedAs(4, uintOf(1)), splitAt(4, ",", 5, 6)), cols(a, b, c, col("d", 5, 4), col("e", 6, 4)), false}, {done(addedAs(4, textOf("")), splitAt(4, ",", 5, 6)), cols(a, b, c, col("d", 5, 4), col("e", 6, 4)), true}, {done(addedAs(4, bytesOf("")), joined(4, 1, ",", 5)), cols(b, c, col("d", 5, 4)), false},
		// columns that don't follow
		{nil, cols(a, b), false}, {nil, cols(b, c), false}, {nil, cols(a, c), false}, {nil, cols(), false}, {nil, cols(a, b, c, col("d", 4, 4)), false}, {nil, cols(a, c, b), false}, {nil, cols(c, b, a), false}, {nil, cols(a, b, b), false}, {nil, cols(a, a, b), false}, {nil, cols(a, a, b, c), false}, {nil, cols(a, b, c, c), false},
		{nil, cols(col("a", 0, 4), b, c), false}, {nil, cols(a, b, col("c", 4, 4)), false}, {nil, cols(col("a", -1, 4), b, c), false}, {nil, cols(col("a", 1<<32+1, 4), b, c), false}, {nil, cols(col("a", 1, 1), b, c), false}, {nil, cols(col("a", 1, 0), b, c), false}, {nil, cols(col("a", 1, 5), b, c), false}, {nil, cols(a, b, col("c", 3, 6)), false}, {nil, cols(a, b, col("c", 3, 3)), false},
		{done(dropped(2)), cols(a, b, c), false}, {done(dropped(2)), cols(a, b), false}, {done(addedAs(4, uintOf(1))), cols(a, b, c), false}, {done(addedAs(4, uintOf(1))), cols(a, b, c, col("d", 4, 2)), false}, {done(addedAs(4, uintOf(1))), cols(a, b, c, col("d", 4, 0)), false}, {done(addedAs(4, uintOf(1))), cols(col("d", 4, 1), a, b, c), false}, {done(addedAs(4, intOf(1))), cols(a, b, c, col("d", 4, 2)), true},
		{done(splitAt(1, ",", 4, 5)), cols(b, c, col("d", 4, 1), col("e", 5, 4)), false}, {done(splitAt(1, ",", 4, 5)), cols(b, c, col("d", 4, 4), col("e", 5, 5)), false}, {done(splitAt(1, ",", 4, 5)), cols(b, c, col("d", 4, 4)), false}, {done(splitAt(1, ",", 4, 5)), cols(a, b, c, col("d", 4, 4), col("e", 5, 4)), false}, {done(joined(1, 2, ",", 4)), cols(c, col("d", 4, 5)), false}, {done(joined(1, 2, ",", 4)), cols(b, c, col("d", 4, 4)), false}, {done(joined(1, 2, ",", 4)), cols(a, c, col("d", 4, 4)), false},
		{done(retyped(1, 5)), cols(a, b, c), false}, {done(retyped(1, 5)), cols(col("a", 1, 2), b, c), false}, {done(retyped(1, 6)), cols(col("a", 1, 2), b, c), true},
	} {
		wantValid(t, typed(texts(), ver(row.d, row.c)), row.want)
		wantValid(t, typed(texts(), ver(nil, texts().Columns), ver(row.d, row.c)), row.want)
		wantValid(t, typed(texts(), ver(row.d, row.c), ver(nil, row.c)), row.want)
	}
}

// eachStep is a version behind texts, with a step of each kind alone, that is valid.
func eachStep() []api.Version {
	a, b, c := col("a", 1, 4), col("b", 2, 4), col("c", 3, 4)
	return []api.Version{
		ver(done(addedAs(4, boolOf(1))), cols(a, b, c, col("d", 4, 3))), ver(done(renamed(1)), cols(col("d", 1, 4), b, c)), ver(done(splitAt(1, ",", 4, 5)), cols(b, c, col("d", 4, 4), col("e", 5, 4))),
		ver(done(joined(1, 2, ",", 4)), cols(c, col("d", 4, 4))), ver(done(retyped(1, 5)), cols(col("a", 1, 1), b, c)), ver(done(dropped(1)), cols(b, c)),
	}
}

func TestFieldsThatACheckedStepDoesNotUse(t *testing.T) {
	for _, v := range eachStep() {
		wantValid(t, typed(texts(), v), true)
		s := v.Steps[0]
		for _, other := range []api.Step{
			{Kind: s.Kind, A: s.A, B: 1}, {Kind: s.Kind, A: s.A, B: -1}, {Kind: s.Kind, A: s.A, B: 4}, {Kind: s.Kind, A: s.A, C: 2}, {Kind: s.Kind, A: s.A, C: 1 << 62}, {Kind: s.Kind, A: s.A, Sep: ","}, {Kind: s.Kind, A: s.A, Sep: "\x00"},
			{Kind: s.Kind, A: s.A, Conv: 1}, {Kind: s.Kind, A: s.A, Conv: 5}, {Kind: s.Kind, A: s.A, Conv: -1}, {Kind: s.Kind, A: s.A, Val: uintOf(0)}, {Kind: s.Kind, A: s.A, Val: api.Value{N: 1}}, {Kind: s.Kind, A: s.A, Val: api.Value{S: "x"}}, {Kind: s.Kind, A: s.A, Val: textOf("")},
		} {
			mixed, used := s, map[string]int{"Kind": 1}
			for _, name := range strings.Fields(namedOf[s.Kind]) {
				used[name] = 1
			}
			changed := false
			to, from := reflect.ValueOf(&mixed).Elem(), reflect.ValueOf(other)
			for i := range to.NumField() {
				if name := to.Type().Field(i).Name; used[name] == 0 && !from.Field(i).IsZero() {
					to.Field(i).Set(from.Field(i))
					changed = true
				}
			}
			if changed {
				wantValid(t, typed(texts(), ver(done(mixed), v.Columns)), false)
			}
		}
	}
	for _, s := range []api.Step{{Kind: 1, A: 1, B: 1}, {Kind: 1, A: 1, C: 1}, {Kind: 1, A: 1, Sep: ","}, {Kind: 1, A: 1, Conv: 1}} {
		wantValid(t, typed(ver(done(s), cols(col("a", 1, 1)))), false)
	}
}

func TestSeparators(t *testing.T) {
	split := func(sep string) api.History {
		return typed(texts(), ver(done(splitAt(1, sep, 4, 5)), cols(col("b", 2, 4), col("c", 3, 4), col("d", 4, 4), col("e", 5, 4))))
	}
	join := func(sep string) api.History {
		return typed(texts(), ver(done(joined(1, 2, sep, 4)), cols(col("c", 3, 4), col("d", 4, 4))))
	}
	for _, sep := range []string{",", " ", "\x00", "é", "\U0010ffff", "\ufffd", times("ab", 5000)} {
		wantValid(t, split(sep), true)
		wantValid(t, join(sep), true)
	}
	for _, sep := range []string{"\xff", ",\xff", "\xc3", "\xc0\x80", "\xed\xa0\x80", "a\x80b", times("ab", 5000) + "\xff"} {
		wantValid(t, split(sep), false)
		wantValid(t, join(sep), false)
	}
	wantValid(t, split(""), false)
	wantValid(t, join(""), true)
}

func TestConversionsOfRetypes(t *testing.T) {
	for from := 1; from <= 5; from++ {
		v := ver(done(added(1)), cols(col("a", 1, from)))
		for _, number := range []int{-1 << 63, -1, 0, 1, 2, 3, 4, 5, 6, 7, 8, 9, 10, 11, 12, 13, 14, 256 + 5, 1<<32 + 5, 1<<63 - 1} {
			for to := 0; to <= 6; to++ {
				want := conversions[[2]int{from, to}] == number && number > 0
				wantValid(t, typed(v, ver(done(retyped(1, number)), cols(col("a", 1, to)))), want)
				first := ver(done(added(1), retyped(1, number)), cols(col("a", 1, to))) // any kind may stand ahead in version 1
				_, made := plainEnds(number)
				wantValid(t, typed(first), made == to && number > 0 && number < 13)
			}
		}
	}
}

// P12.2: values

func TestValuesOfAdds(t *testing.T) {
	for _, row := range []struct {
		v    api.Value
		want bool
	}{
		{uintOf(0), true}, {uintOf(1), true}, {uintOf(1<<64 - 1), true}, {api.Value{Kind: 1, S: "x"}, false}, {api.Value{Kind: 1, N: 1, S: "\x00"}, false},
		{intOf(0), true}, {intOf(-1), true}, {intOf(-1 << 63), true}, {intOf(1<<63 - 1), true}, {api.Value{Kind: 2, S: "x"}, false},
		{boolOf(0), true}, {boolOf(1), true}, {boolOf(2), false}, {boolOf(1<<64 - 1), false}, {api.Value{Kind: 3, S: "x"}, false},
		{textOf(""), true}, {textOf("é\x00"), true}, {textOf("\xff"), false}, {api.Value{Kind: 4, N: 1}, false}, {api.Value{Kind: 4, N: 1, S: "x"}, false}, {textOf(times("a", 4095)), true}, {textOf(times("a", 4096)), true}, {textOf(times("a", 4097)), false}, {textOf(times("é", 2048)), true}, {textOf(times("é", 2049)), false}, {textOf(times("a", 100000)), false}, {textOf(times("a", 4095) + "\xff"), false},
		{bytesOf(""), true}, {bytesOf("\xff\x00"), true}, {api.Value{Kind: 5, N: 1}, false}, {bytesOf(times("\xff", 2047)), true}, {bytesOf(times("\xff", 2048)), true}, {bytesOf(times("\xff", 2049)), false}, {bytesOf(times("a", 2049)), false}, {bytesOf(times("a", 4096)), false}, {bytesOf(times("a", 4097)), false},
		{api.Value{}, false}, {api.Value{Kind: 6}, false}, {api.Value{Kind: -1}, false}, {api.Value{Kind: 1<<32 + 1}, false}, {api.Value{Kind: 256 + 1}, false}, {api.Value{N: 1}, false}, {api.Value{S: "x"}, false},
	} {
		for k := 0; k <= 6; k++ {
			behind := ver(done(addedAs(1, row.v)), cols(col("a", 1, k)))
			wantValid(t, typed(ver(nil, nil), behind), row.want && k == row.v.Kind)
			wantValid(t, typed(ver(nil, nil), ver(nil, nil), behind, ver(nil, behind.Columns)), row.want && k == row.v.Kind)
			wantValid(t, typed(behind), row.v == api.Value{} && k >= 1 && k <= 5)
		}
		gone := ver(done(addedAs(1, row.v), dropped(1)), nil)
		wantValid(t, typed(ver(nil, nil), gone), row.want)
		wantValid(t, typed(gone), row.v == api.Value{})
	}
}

// P12.2: kinds of a first version

func TestKindsThatAreFree(t *testing.T) {
	for k := -1; k <= 7; k++ {
		is := k >= 1 && k <= 5
		wantValid(t, typed(ver(done(added(1)), cols(col("a", 1, k)))), is)
		wantValid(t, typed(ver(done(added(1)), cols(col("a", 1, k))), ver(nil, cols(col("a", 1, k)))), is)
		wantValid(t, typed(ver(done(added(1)), cols(col("a", 1, k))), ver(nil, cols(col("a", 1, k%5+1)))), false)
		wantValid(t, typed(ver(done(added(1), renamed(1), renamed(1)), cols(col("a", 1, k)))), is)
		wantValid(t, typed(ver(done(added(1), added(2), renamed(1), dropped(2)), cols(col("a", 1, k)))), is)
		wantValid(t, typed(ver(done(added(1), added(2)), cols(col("a", 1, k), col("b", 2, 3)))), is)
		wantValid(t, typed(ver(done(added(1), added(2)), cols(col("a", 1, 3), col("b", 2, k)))), is)
		// fixed by the steps
		wantValid(t, typed(ver(done(added(1), retyped(1, 9)), cols(col("a", 1, k)))), k == 1)
		wantValid(t, typed(ver(done(added(1), retyped(1, 3), retyped(1, 11)), cols(col("a", 1, k)))), k == 5)
		wantValid(t, typed(ver(done(added(1), retyped(1, 3), retyped(1, 5), retyped(1, 1)), cols(col("a", 1, k)))), k == 2)
		wantValid(t, typed(ver(done(added(1), retyped(1, 3), retyped(1, 1)), cols(col("a", 1, k)))), false)
		wantValid(t, typed(ver(done(added(1), retyped(1, 3), retyped(1, 3)), cols(col("a", 1, k)))), false)
		wantValid(t, typed(ver(done(added(1), splitAt(1, ",", 2, 3)), cols(col("a", 2, k), col("b", 3, 4)))), k == 4)
		wantValid(t, typed(ver(done(added(1), splitAt(1, ",", 2, 3)), cols(col("a", 2, 4), col("b", 3, k)))), k == 4)
		wantValid(t, typed(ver(done(added(1), added(2), joined(2, 1, ",", 3)), cols(col("a", 3, k)))), k == 4)
	}
	for number := 1; number <= 12; number++ {
		_, to := plainEnds(number)
		split, join := splitAt(1, ",", 2, 3), joined(1, 2, ",", 3)
		wantValid(t, typed(ver(done(added(1), retyped(1, number), split), cols(col("a", 2, 4), col("b", 3, 4)))), to == 4)
		wantValid(t, typed(ver(done(added(1), added(2), retyped(1, number), join), cols(col("a", 3, 4)))), to == 4)
		wantValid(t, typed(ver(done(added(1), added(2), retyped(2, number), join), cols(col("a", 3, 4)))), to == 4)
		wantValid(t, typed(ver(done(added(1), retyped(1, number), dropped(1)), nil)), true)
		for next := 1; next <= 12; next++ {
			from, _ := plainEnds(next)
			wantValid(t, typed(ver(done(added(1), retyped(1, number), retyped(1, next), dropped(1)), nil)), to == from)
			wantValid(t, typed(ver(done(added(1), splitAt(1, ",", 2, 3), retyped(2, number), dropped(2), dropped(3)), nil)), number == 5 || number == 6 || number == 8 || number == 11)
		}
	}
	wantValid(t, typed(ver(done(added(1), dropped(1)), nil)), true)
}

// P12.2: names

func TestNamesOfAVersion(t *testing.T) {
	u := func(name string, tag int) api.Column { return col(name, tag, 4) }
	a, b, c := u("a", 1), u("b", 2), u("c", 3)
	v := textOf("")
	for _, row := range []struct {
		d    []api.Step
		c    []api.Column
		want bool
	}{
		// there ahead and behind
		{nil, cols(u("x", 1), b, c), false}, {nil, cols(u("b", 1), u("a", 2), c), false}, {done(renamed(2)), cols(u("x", 1), u("y", 2), c), false}, {done(dropped(2)), cols(u("b", 1), c), false}, {done(retyped(1, 11)), cols(col("x", 1, 5), b, c), false},
		// renamed once, twice, and back
		{done(renamed(1)), cols(u("x", 1), b, c), true}, {done(renamed(1)), cols(a, b, c), false}, {done(renamed(1)), cols(u("b", 1), b, c), false}, {done(renamed(1)), cols(u("c", 1), b, c), false}, {done(renamed(1)), cols(u("b", 1), u("x", 2), c), false}, {done(renamed(1), renamed(1)), cols(a, b, c), true}, {done(renamed(1), renamed(1)), cols(u("x", 1), b, c), true}, {done(renamed(1), renamed(1), renamed(1)), cols(a, b, c), true}, {done(renamed(1), renamed(1)), cols(u("b", 1), b, c), false},
		{done(renamed(1), renamed(2)), cols(u("x", 1), u("a", 2), c), true}, {done(renamed(2), renamed(1)), cols(u("x", 1), u("a", 2), c), false}, {done(renamed(1), renamed(2)), cols(u("b", 1), u("a", 2), c), false}, {done(renamed(1), renamed(2), renamed(1)), cols(u("b", 1), u("a", 2), c), true}, {done(renamed(2), renamed(1), renamed(1)), cols(u("b", 1), u("a", 2), c), false}, {done(renamed(1), renamed(1), renamed(2)), cols(u("b", 1), u("a", 2), c), false}, {done(renamed(2), renamed(1), renamed(2)), cols(u("b", 1), u("a", 2), c), true},
		{done(renamed(1), renamed(2), renamed(3), renamed(1)), cols(u("c", 1), u("a", 2), u("b", 3)), true}, {done(renamed(1), renamed(2), renamed(3)), cols(u("c", 1), u("a", 2), u("b", 3)), false}, {done(renamed(1), renamed(3), renamed(2), renamed(1)), cols(u("c", 1), u("a", 2), u("b", 3)), false},
		// made ahead of what goes, and behind it
		{done(addedAs(4, v), dropped(1)), cols(b, c, u("a", 4)), false}, {done(dropped(1), addedAs(4, v)), cols(b, c, u("a", 4)), true}, {done(addedAs(4, v), dropped(1), renamed(4)), cols(b, c, u("a", 4)), true}, {done(addedAs(4, v), renamed(4), dropped(1)), cols(b, c, u("a", 4)), false}, {done(addedAs(4, v), renamed(4), dropped(1), renamed(4)), cols(b, c, u("a", 4)), true}, {done(addedAs(4, v), dropped(1)), cols(b, c, u("x", 4)), true},
		{done(addedAs(4, v), renamed(1)), cols(u("x", 1), b, c, u("a", 4)), false}, {done(renamed(1), addedAs(4, v)), cols(u("x", 1), b, c, u("a", 4)), true}, {done(addedAs(4, v), renamed(1), renamed(4)), cols(u("x", 1), b, c, u("a", 4)), true}, {done(renamed(1), addedAs(4, v), dropped(1)), cols(b, c, u("a", 4)), true}, {done(addedAs(4, v), renamed(4)), cols(a, b, c, u("a", 4)), false}, {done(addedAs(4, v), renamed(4)), cols(a, b, c, u("x", 4)), true},
		{done(addedAs(4, v), addedAs(5, v)), cols(a, b, c, u("x", 4), u("x", 5)), false}, {done(addedAs(4, v), addedAs(5, v), dropped(4)), cols(a, b, c, u("x", 5)), true}, {done(addedAs(4, v), addedAs(5, v), renamed(4)), cols(a, b, c, u("x", 4), u("y", 5)), true},
		{done(addedAs(4, v), dropped(4), addedAs(5, v)), cols(a, b, c, u("a", 5)), false}, {done(renamed(1), addedAs(4, v), renamed(1)), cols(u("x", 1), b, c, u("a", 4)), true}, {done(renamed(1), addedAs(4, v), renamed(1)), cols(a, b, c, u("a", 4)), false}, {done(renamed(1), addedAs(4, v), renamed(4), renamed(1)), cols(a, b, c, u("x", 4)), true},
		// split
		{done(splitAt(1, ",", 4, 5)), cols(b, c, u("a", 4), u("x", 5)), true}, {done(splitAt(1, ",", 4, 5)), cols(b, c, u("x", 4), u("a", 5)), true}, {done(splitAt(1, ",", 4, 5)), cols(b, c, u("b", 4), u("x", 5)), false}, {done(splitAt(1, ",", 4, 5)), cols(b, c, u("x", 4), u("b", 5)), false}, {done(splitAt(1, ",", 4, 5)), cols(b, c, u("x", 4), u("x", 5)), false}, {done(splitAt(1, ",", 4, 5)), cols(b, c, u("a", 4), u("a", 5)), false}, {done(splitAt(1, ",", 4, 5), dropped(4)), cols(b, c, u("a", 5)), true}, {done(splitAt(1, ",", 4, 5), dropped(2)), cols(c, u("b", 4), u("x", 5)), false},
		{done(splitAt(1, ",", 4, 5), dropped(2), renamed(4)), cols(c, u("b", 4), u("x", 5)), true}, {done(splitAt(1, ",", 4, 5), dropped(2), renamed(5)), cols(c, u("b", 4), u("x", 5)), false}, {done(splitAt(1, ",", 4, 5), dropped(2), renamed(5)), cols(c, u("x", 4), u("b", 5)), true}, {done(dropped(2), splitAt(1, ",", 4, 5)), cols(c, u("b", 4), u("a", 5)), true}, {done(renamed(2), splitAt(1, ",", 4, 5)), cols(u("a", 2), c, u("b", 4), u("x", 5)), false}, {done(splitAt(1, ",", 4, 5), renamed(2)), cols(u("a", 2), c, u("b", 4), u("x", 5)), false}, {done(splitAt(1, ",", 4, 5), renamed(2), renamed(4)), cols(u("a", 2), c, u("b", 4), u("x", 5)), true}, {done(splitAt(1, ",", 4, 5), renamed(2)), cols(u("a", 2), c, u("y", 4), u("x", 5)), true},
		// join
		{done(joined(1, 2, ",", 4)), cols(c, u("a", 4)), true}, {done(joined(1, 2, ",", 4)), cols(c, u("b", 4)), true}, {done(joined(1, 2, ",", 4)), cols(c, u("c", 4)), false}, {done(joined(2, 1, ",", 4)), cols(c, u("b", 4)), true}, {done(joined(1, 2, ",", 4), dropped(3)), cols(u("c", 4)), false}, {done(joined(1, 2, ",", 4), dropped(3), renamed(4)), cols(u("c", 4)), true}, {done(dropped(3), joined(1, 2, ",", 4)), cols(u("c", 4)), true}, {done(joined(1, 2, ",", 4), renamed(3)), cols(u("b", 3), u("a", 4)), true}, {done(renamed(3), joined(1, 2, ",", 4)), cols(u("b", 3), u("a", 4)), false}, {done(renamed(3), joined(1, 2, ",", 4), renamed(3)), cols(u("b", 3), u("a", 4)), true},
		// what comes and goes could have had any name
		{done(addedAs(4, v), dropped(4)), cols(a, b, c), true}, {done(splitAt(1, ",", 4, 5), joined(4, 5, ",", 6), splitAt(6, ",", 7, 8), joined(8, 7, ",", 9)), cols(b, c, u("a", 9)), true}, {done(splitAt(1, ",", 4, 5), joined(4, 5, ",", 6), splitAt(6, ",", 7, 8), joined(8, 7, ",", 9)), cols(b, c, u("b", 9)), false}, {done(renamed(1), addedAs(4, v), dropped(1), addedAs(5, v), dropped(4)), cols(b, c, u("a", 5)), true},
	} {
		wantValid(t, typed(texts(), ver(row.d, row.c)), row.want)
		wantValid(t, typed(texts(), ver(row.d, row.c), ver(nil, row.c)), row.want)
		wantValid(t, typed(texts(), ver(done(renamed(1), renamed(1)), cols(a, b, c)), ver(row.d, row.c)), row.want)
		away, back := ver(done(renamed(1)), cols(u("away", 1), b, c)), ver(done(renamed(1)), cols(a, b, c)) // what earlier versions renamed plays no part
		wantValid(t, typed(texts(), away, back, ver(row.d, row.c)), row.want)
	}
}

// slots are the names that a step of a tree gives: how many.
func slots(s api.Step) int {
	return map[int]int{1: 1, 2: 1, 3: 2, 4: 1}[s.Kind]
}

// named does a version's steps with names out of what gives some, from the first step on, and answers whether each could
// be done. Nothing of History is in it: just that no two columns may have one name.
func named(held map[int]string, s []api.Step, give func() string) bool {
	for _, s := range s {
		if s.Kind == 3 || s.Kind == 4 || s.Kind == 6 {
			for _, tag := range takenBy(s) {
				delete(held, tag)
			}
		}
		gets := madeBy(s)
		if s.Kind == 2 {
			gets = []int{s.A}
		}
		for _, tag := range gets {
			name := give()
			for _, other := range held {
				if other == name {
					return false
				}
			}
			held[tag] = name
		}
	}
	return true
}

// shapes gives all versions' steps of a length over two texts, a and b, but for the names.
func shapes(length int, give func([]api.Step, []int)) {
	var grow func(s []api.Step, there []int, top int)
	grow = func(s []api.Step, there []int, top int) {
		if len(s) == length {
			give(s, there)
			return
		}
		with := func(step api.Step) []api.Step { return append(slices.Clone(s), step) }
		without := func(tags ...int) []int {
			return slices.DeleteFunc(slices.Clone(there), func(tag int) bool { return slices.Contains(tags, tag) })
		}
		grow(with(addedAs(top+1, textOf(""))), append(slices.Clone(there), top+1), top+1)
		for _, tag := range there {
			grow(with(renamed(tag)), there, top)
			grow(with(dropped(tag)), without(tag), top)
			grow(with(splitAt(tag, ",", top+1, top+2)), append(without(tag), top+1, top+2), top+2)
			for _, other := range there {
				if other > tag {
					grow(with(joined(tag, other, "", top+1)), append(without(tag, other), top+1), top+1)
				}
			}
		}
	}
	grow(nil, []int{1, 2}, 2)
}

// allTuples gives all tuples of places in lists of such lengths.
func allTuples(lengths []int, give func([]int)) {
	at := make([]int, len(lengths))
	for {
		give(at)
		i := 0
		for ; i < len(at); i++ {
			if at[i]++; at[i] < lengths[i] {
				break
			}
			at[i] = 0
		}
		if i == len(at) {
			return
		}
	}
}

// namesOf are the names behind a version that a tree can come to by some names for its steps, from a few on.
func namesOf(s []api.Step, there []int) map[string]int {
	count := 0
	for _, step := range s {
		count += slots(step)
	}
	could := map[string]int{}
	allTuples(slices.Repeat([]int{5}, count), func(at []int) {
		held, slot := map[int]string{1: "a", 2: "b"}, 0
		give := func() string {
			slot++
			return []string{"a", "b", "c", "d", "free_" + strconv.Itoa(slot)}[at[slot-1]]
		}
		if !named(held, s, give) {
			return
		}
		key := ""
		for _, tag := range there {
			key += held[tag] + " "
		}
		could[key]++
	})
	return could
}

// TestValidJustWhereThereAreNames tries all names that a tree could give its columns, in all short versions.
func TestValidJustWhereThereAreNames(t *testing.T) {
	told := map[bool]int{}
	begin := ver(done(added(1), added(2)), cols(col("a", 1, 4), col("b", 2, 4)))
	for length := range 4 {
		shapes(length, func(s []api.Step, there []int) {
			could := namesOf(s, there)
			allTuples(slices.Repeat([]int{4}, len(there)), func(at []int) {
				key := ""
				var behind []api.Column
				for i, tag := range there {
					behind = append(behind, col([]string{"a", "b", "c", "d"}[at[i]], tag, 4))
					key += behind[i].Name + " "
				}
				want := could[key] > 0
				if got := check.Valid(typed(begin, ver(s, behind))); got != want {
					t.Errorf("%v of %s", got, shown(ver(s, behind)))
				}
				told[want]++
			})
		})
	}
	if told[true] < 1000 || told[false] < 1000 {
		t.Errorf("%v", told)
	}
}

// P12.2: what History answers, and what is nearly that

func TestHistoriesByChanceAreValid(t *testing.T) {
	r := lcg(11)
	for range 3000 {
		h, _, err := check.History(r.tree(0))
		if err == api.OK {
			wantValid(t, h, true)
		}
	}
}

func TestHistoriesWithFaultsByChance(t *testing.T) {
	r := lcg(12)
	told := map[bool]int{}
	for range 30000 {
		h := clonedHistory(r.history(t))
		for range 1 + r.below(2) {
			r.disturb(&h)
		}
		told[wantPlainValid(t, h)]++
	}
	if told[true] < 1000 || told[false] < 1000 {
		t.Errorf("%v", told)
	}
}

// whole is a history with each kind of step and each kind of column in several versions.
func whole() api.History {
	return types(api.Type{Name: "d", Versions: []api.Version{{}}}, api.Type{Name: "e", Versions: []api.Version{
		ver(done(added(1), added(2), added(3), renamed(2), retyped(3, 3)), cols(col("a", 1, 4), col("b", 2, 5), col("c", 3, 4))),
		ver(done(addedAs(4, textOf("x")), addedAs(5, uintOf(7)), addedAs(6, boolOf(1)), addedAs(7, bytesOf("y")), addedAs(8, intOf(-1))), cols(col("a", 1, 4), col("b", 2, 5), col("c", 3, 4), col("d", 4, 4), col("e", 5, 1), col("f", 6, 3), col("g", 7, 5), col("h", 8, 2))),
		ver(done(splitAt(1, ",", 9, 10), joined(4, 3, ";", 11), renamed(5), retyped(7, 12), dropped(8)), cols(col("b", 2, 5), col("x", 5, 1), col("f", 6, 3), col("g", 7, 4), col("a", 9, 4), col("k", 10, 4), col("d", 11, 4))),
		ver(nil, cols(col("b", 2, 5), col("x", 5, 1), col("f", 6, 3), col("g", 7, 4), col("a", 9, 4), col("k", 10, 4), col("d", 11, 4))),
	}}, api.Type{Name: "f", Versions: []api.Version{ver(done(added(1)), cols(col("a", 1, 2)))}})
}

func TestEachFieldChanged(t *testing.T) {
	wantValid(t, whole(), true)
	count := len(parts(reflect.ValueOf(whole())))
	told := map[bool]int{}
	for i := range count {
		for choice := 0; ; choice++ {
			h := clonedHistory(whole())
			v := parts(reflect.ValueOf(&h).Elem())[i]
			if !change(v, choice) {
				break
			}
			told[wantPlainValid(t, h)]++
		}
	}
	if told[true] < 50 || told[false] < 2000 {
		t.Errorf("%v", told)
	}
}

// change puts something else into a field, which may do or not; it answers whether there is such a choice.
func change(v reflect.Value, choice int) bool {
	ints := []int64{-1 << 63, -1, 0, 1, 2, 3, 4, 5, 6, 7, 8, 9, 10, 11, 12, 13, 65535, 65536, 1 << 32, 1<<63 - 1}
	texts := []string{"", "a", "b", "c", "x", "k", "new", "to", "version", "1a", ",", "\xff", times("n", 64), times("n", 65), times("n", 4097)}
	switch v.Kind() {
	case reflect.Int, reflect.Uint64:
		if choice >= len(ints) {
			return false
		}
		if v.CanInt() {
			v.SetInt(ints[choice])
		} else {
			v.SetUint(uint64(ints[choice]))
		}
	case reflect.String:
		if choice >= len(texts) {
			return false
		}
		v.SetString(texts[choice])
	default:
		return changeList(v, choice)
	}
	return true
}

// changeList takes an item out, puts it in twice, or moves it to the front; or it makes the list empty, or nil.
func changeList(v reflect.Value, choice int) bool {
	n := v.Len()
	i := choice / 3
	l := reflect.AppendSlice(reflect.MakeSlice(v.Type(), 0, n+1), v)
	switch {
	case i < n && choice%3 == 0:
		l = reflect.AppendSlice(l.Slice(0, i), v.Slice(i+1, n))
	case i < n && choice%3 == 1:
		l = reflect.Append(l, v.Index(i))
	case i < n:
		l = reflect.Append(reflect.MakeSlice(v.Type(), 0, n), v.Index(i))
		l = reflect.AppendSlice(reflect.AppendSlice(l, v.Slice(0, i)), v.Slice(i+1, n))
	case choice == 3*n:
		l = reflect.MakeSlice(v.Type(), 0, 3)
	case choice == 3*n+1:
		l = reflect.Zero(v.Type())
	default:
		return false
	}
	v.Set(l)
	return true
}
