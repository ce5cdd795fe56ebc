package check_test

import (
	"cmp"
	"fmt"
	"reflect"
	"slices"
	"strings"
	"sync"
	"testing"

	"stratum/api"
	"stratum/check"
	"stratum/parse"
	"stratum/print"
)

// P12.3: tags are for life

// wantTagsForLife looks at a type of a history that History answered.
func wantTagsForLife(t *testing.T, typ api.Type) {
	t.Helper()
	top := 0
	last := map[int]int{}  // the version in which a column was there last
	kinds := map[int]int{} // and its kind
	for j, v := range typ.Versions {
		retyped := map[int]int{}
		for _, s := range v.Steps {
			for _, tag := range madeBy(s) {
				if tag <= top {
					t.Errorf("version %d makes %d behind %d: %s", j+1, tag, top, shown(typ))
				}
				top = tag
			}
			if s.Kind == api.StepRetype {
				_, retyped[s.A] = plainEnds(s.Conv)
			}
		}
		before := 0
		for _, c := range v.Columns {
			if at, ok := last[c.Tag]; ok && (at != j-1 || retyped[c.Tag] == 0 && kinds[c.Tag] != c.Kind) || retyped[c.Tag] > 0 && retyped[c.Tag] != c.Kind {
				t.Errorf("version %d, column %d: %s", j+1, c.Tag, shown(typ))
			}
			if c.Tag <= before || c.Tag > top {
				t.Errorf("version %d, column %d: %s", j+1, c.Tag, shown(typ))
			}
			before, last[c.Tag], kinds[c.Tag] = c.Tag, j, c.Kind
		}
	}
}

func TestTagsAreForLife(t *testing.T) {
	r := lcg(21)
	columns := 0
	for range 5000 {
		h := r.history(t)
		for _, typ := range h.Types {
			wantTagsForLife(t, typ)
			for _, v := range typ.Versions {
				columns += len(v.Columns)
			}
		}
	}
	if columns < 20000 {
		t.Errorf("%d columns", columns)
	}
}

// P12.4: growing

// shorter is a tree without some of the last versions of its events, and some of the last events.
func (r *lcg) shorter(s api.Schema) api.Schema {
	s = clonedTree(s)
	s.Events = s.Events[:r.below(len(s.Events)+1)]
	for i := range s.Events {
		e := &s.Events[i]
		e.Versions = e.Versions[:1+r.below(len(e.Versions))]
	}
	return s
}

func TestGrowing(t *testing.T) {
	r := lcg(22)
	grown := 0
	for range 5000 {
		long := r.tree(0)
		h, _, err := check.History(long)
		short := r.shorter(long)
		r.number(&short) // places play no part
		g, _, shortErr := check.History(short)
		if err != api.OK || shortErr != api.OK {
			continue
		}
		if len(g.Types) != len(short.Events) {
			t.Fatalf("%s: %s", shown(short), shown(g))
		}
		for i, typ := range g.Types {
			other := h.Types[i]
			if typ.Name != other.Name || len(typ.Versions) != len(short.Events[i].Versions) || !slices.EqualFunc(typ.Versions, other.Versions[:len(typ.Versions)], sameVersion) {
				t.Errorf("%s grew to %s", shown(typ), shown(other))
			}
			grown += len(other.Versions) - len(typ.Versions)
		}
	}
	if grown < 2000 {
		t.Errorf("%d versions more", grown)
	}
}

func TestGrowingByFaults(t *testing.T) {
	r := lcg(23)
	for range 3000 { // what is behind plays no part for what stands ahead, the other way round neither
		s := r.tree(5)
		_, _, err := check.History(s)
		if short := r.shorter(s); err == api.OK {
			if _, _, err := check.History(short); err != api.OK {
				t.Errorf("%d of %s", err, shown(short))
			}
		}
	}
}

// P3 of the whole: read, printed and read again

func TestPrintedTextsHaveTheSameHistory(t *testing.T) {
	r := lcg(24)
	for range 2000 {
		s := r.tree(0)
		out, err := print.Schema(s)
		if err != api.OK {
			t.Fatal(err)
		}
		h, _, err := check.History(s)
		if err == api.OK {
			wantText(t, out, h)
			wantText(t, "# a remark\n"+strings.ReplaceAll(out, "\n  ", "\t"), h)
		}
		back, _, _ := parse.Schema(out)
		again, _, againErr := check.History(back)
		if err != againErr || !same(h, again) {
			t.Errorf("%d, %s: %d, %s", err, shown(h), againErr, shown(again))
		}
	}
}

// P12.5

// withRoom is a tree whose lists have spare room, with something in it.
func withRoom(s api.Schema) api.Schema {
	s = clonedTree(s)
	spare := event("spare", version(1, drop("spare")))
	for i := range s.Events {
		e := &s.Events[i]
		for j := range e.Versions {
			v := &e.Versions[j]
			for k := range v.Steps {
				v.Steps[k].Value = append(v.Steps[k].Value, num(99))[:len(v.Steps[k].Value)]
			}
			v.Steps = append(v.Steps, spare.Versions[0].Steps...)[:len(v.Steps)]
		}
		e.Versions = append(e.Versions, spare.Versions...)[:len(e.Versions)]
	}
	s.Events = append(s.Events, spare)[:len(s.Events)]
	return s
}

// wholeOf is what stands in all lists of a tree or a history, their spare room too.
func wholeOf(what any) string {
	var out strings.Builder
	var walk func(v reflect.Value)
	walk = func(v reflect.Value) {
		switch v.Kind() {
		case reflect.Struct:
			for i := range v.NumField() {
				walk(v.Field(i))
			}
		case reflect.Slice:
			fmt.Fprintf(&out, "[%d %v", v.Len(), v.IsNil())
			l := v.Slice(0, v.Cap())
			for i := range l.Len() {
				walk(l.Index(i))
			}
			out.WriteString("]")
		default:
			fmt.Fprintf(&out, "%#v,", v.Interface())
		}
	}
	walk(reflect.ValueOf(what))
	return out.String()
}

func TestWhatIsHandedInStays(t *testing.T) {
	r := lcg(25)
	for range 3000 {
		s := withRoom(r.tree(r.below(2) * 3))
		was := wholeOf(s)
		h, at, err := check.History(s)
		if now := wholeOf(s); now != was {
			t.Fatalf("%s became %s", show(was), show(now))
		}
		kept := clonedHistory(h)
		for i := range s.Events { // it is no part of the answer either
			for j := range s.Events[i].Versions {
				v := &s.Events[i].Versions[j]
				for k := range v.Steps {
					clear(v.Steps[k].Value[:cap(v.Steps[k].Value)])
				}
				clear(v.Steps[:cap(v.Steps)])
			}
			clear(s.Events[i].Versions[:cap(s.Events[i].Versions)])
		}
		clear(s.Events[:cap(s.Events)])
		if !same(h, kept) {
			t.Fatalf("%d, %d: %s became %s", at, err, shown(kept), shown(h))
		}
	}
}

func TestHistoriesThatAreHandedInStay(t *testing.T) {
	r := lcg(26)
	for i := range 3000 {
		h := clonedHistory(r.history(t))
		if i%2 == 0 {
			r.disturb(&h)
		}
		for i := range h.Types {
			for j := range h.Types[i].Versions {
				v := &h.Types[i].Versions[j]
				v.Steps = append(v.Steps, dropped(99))[:len(v.Steps)]
				v.Columns = append(v.Columns, col("spare", 99, 9))[:len(v.Columns)]
			}
		}
		was := wholeOf(h)
		first := check.Valid(h)
		if now := wholeOf(h); now != was {
			t.Fatalf("%s became %s", show(was), show(now))
		}
		if check.Valid(h) != first {
			t.Errorf("%v at first: %s", first, shown(h))
		}
	}
}

// lists are the places in memory of all lists of a tree or a history that have any, with their spare room.
func lists(what any) [][2]uintptr {
	var out [][2]uintptr
	for _, v := range parts(reflect.ValueOf(what)) {
		if v.Kind() == reflect.Slice && v.Cap() > 0 {
			from := v.Pointer()
			out = append(out, [2]uintptr{from, from + uintptr(v.Cap())*v.Type().Elem().Size()})
		}
	}
	return out
}

func TestNewMemory(t *testing.T) {
	r := lcg(27)
	for range 1000 {
		s := withRoom(r.tree(0))
		h, _, err := check.History(s)
		again, _, _ := check.History(s)
		read, _, _ := check.Text(printed(s))
		if err != api.OK {
			continue
		}
		all := slices.Concat(lists(s), lists(h), lists(again), lists(read))
		slices.SortFunc(all, func(a, b [2]uintptr) int { return cmp.Compare(a[0], b[0]) })
		for i := range all[:max(0, len(all)-1)] {
			if all[i][1] > all[i+1][0] {
				t.Fatalf("two lists share memory: %s", shown(h))
			}
		}
		was := clonedHistory(again)
		spoil(h)
		if !same(again, was) || !same(read, was) {
			t.Fatalf("%s became %s", shown(was), shown(again))
		}
	}
}

func printed(s api.Schema) string {
	out, _ := print.Schema(s)
	return out
}

// spoil writes into all lists of a history, and behind each.
func spoil(h api.History) {
	for _, typ := range h.Types {
		for _, v := range typ.Versions {
			clear(v.Steps[:cap(v.Steps)])
			clear(v.Columns[:cap(v.Columns)])
		}
		clear(typ.Versions[:cap(typ.Versions)])
	}
	clear(h.Types[:cap(h.Types)])
}

// TestListsOfAnAnswerStandApart writes into one list of an answer after the other, and looks at all others.
func TestListsOfAnAnswerStandApart(t *testing.T) {
	s := tree(base(), steps(rename("u1", "n"), split("t1", ",", "p", "q")), nil, nil, steps(add("m", "uint", num(1))))
	s.Events = append(s.Events, event("f", version(1, base()...), version(2)))
	want, _, _ := plainHistory(s)
	for i := range want.Types {
		for j := range want.Types[i].Versions {
			h, _, _ := check.History(s)
			v := &h.Types[i].Versions[j]
			clear(v.Columns[:cap(v.Columns)])
			v.Columns = want.Types[i].Versions[j].Columns
			if !same(h, want) {
				t.Errorf("type %d, version %d: columns: %s", i, j, shown(h))
			}
			h, _, _ = check.History(s)
			v = &h.Types[i].Versions[j]
			clear(v.Steps[:cap(v.Steps)])
			v.Steps = want.Types[i].Versions[j].Steps
			if !same(h, want) {
				t.Errorf("type %d, version %d: steps: %s", i, j, shown(h))
			}
		}
	}
	wantHistory(t, s, want) // and no later call tells of it
}

func TestCallsBesideOneAnother(t *testing.T) {
	r := lcg(28)
	var trees []api.Schema
	var histories []api.History
	for range 40 {
		trees = append(trees, r.tree(r.below(2)*10))
		h := clonedHistory(r.history(t))
		r.disturb(&h)
		histories = append(histories, h)
	}
	var all sync.WaitGroup
	for range 8 {
		all.Go(func() {
			for range 20 {
				for i := range trees {
					wantPlain(t, trees[i])
					if check.Valid(histories[i]) != plainValid(histories[i]) {
						t.Errorf("%s", shown(histories[i]))
					}
				}
			}
		})
	}
	all.Wait()
}

func TestCallsHangOnTheirArgumentsAlone(t *testing.T) {
	good, bad := tree(base(), around()), tree(base(), placed(steps(drop("q")), 3))
	h, _, _ := check.History(good)
	for range 3 {
		wantFault(t, bad, 3, api.ErrName)
		wantHistory(t, good, h)
		wantTextFault(t, "event a { version 1 { drop x; } }", 22, api.ErrName)
		wantTextFault(t, "event a", 7, api.ErrSyntax)
		wantValid(t, h, true)
		wantValid(t, types(api.Type{}), false)
	}
}
