package table_test

import (
	"fmt"
	"reflect"
	"slices"
	"strings"
	"sync"
	"testing"
	"unsafe"

	"stratum/api"
	"stratum/table"
)

// P13.6

// withRoom gives all lists of what p points to spare room, with something in it that no list has elsewhere.
func withRoom(p any) {
	walk(p, func(v reflect.Value) {
		if v.Kind() != reflect.Slice {
			return
		}
		l := reflect.MakeSlice(v.Type(), v.Len()+3, v.Len()+3)
		reflect.Copy(l, v)
		for i := v.Len(); i < l.Len(); i++ {
			fill(l.Index(i).Addr().Interface(), 1, 5000+100*i)
		}
		v.Set(l.Slice(0, v.Len()))
	})
}

// wholeOf is all that stands in lists, their spare room too.
func wholeOf(p any) string {
	var out strings.Builder
	var down func(v reflect.Value)
	down = func(v reflect.Value) {
		switch v.Kind() {
		case reflect.Struct:
			for i := range v.NumField() {
				down(v.Field(i))
			}
		case reflect.Slice:
			fmt.Fprintf(&out, "[%d of %d, %v: ", v.Len(), v.Cap(), v.IsNil())
			for i := range v.Cap() {
				down(v.Slice(0, v.Cap()).Index(i))
			}
			out.WriteString("]")
		default:
			fmt.Fprintf(&out, "%#v,", v.Interface())
		}
	}
	down(reflect.ValueOf(p).Elem())
	return out.String()
}

// given is what all calls can be handed.
type given struct {
	A    api.History
	B    api.History
	Cols []api.Column
	Rec  []api.Field
}

// givens have lists that hold something, nothing, and none.
func givens() []given {
	cols := allKinds()
	out := []given{
		{order(), order(), cols, recordOf(cols)},
		{cut(filled(3), 2, 2), filled(3), cols, recordOf(cols[1:])},
		{filled(3), ragged(), filled(1).Types[0].Versions[0].Columns, recordOf(cols)},
		{api.History{Types: []api.Type{}}, filled(1), []api.Column{}, []api.Field{}},
		{},
	}
	for i := range out {
		withRoom(&out[i])
	}
	return append(out, given{order(), filled(2), cols[:4:4], recordOf(cols)}, given{})
}

// callAll makes all calls, with what is there and what isn't.
func callAll(g given) string {
	var out strings.Builder
	for _, name := range []string{"order", "t101", "id", "t110", "c1", "", "t5001", "t5101"} {
		c, ok := table.Column(g.Cols, name)
		fmt.Fprintf(&out, "%d %d %#v %v\n", table.Find(g.A, name), table.Find(g.B, name), c, ok)
	}
	for place := -1; place < 7; place++ {
		for version := -1; version < 7; version++ {
			cols, err := table.Columns(g.A, place, version)
			others, otherErr := table.Columns(g.B, place, version)
			fmt.Fprintf(&out, "%+v %d %+v %d\n", cols, err, others, otherErr)
		}
	}
	fmt.Fprintln(&out, table.Typed(g.Cols, g.Rec), table.Extends(g.A, g.B), table.Extends(g.B, g.A))
	return out.String()
}

func TestWhatIsHandedInStays(t *testing.T) {
	for i, g := range givens() {
		was := wholeOf(&g)
		first := callAll(g)
		if now := wholeOf(&g); now != was {
			t.Errorf("row %d: %s became %s", i, show(was), show(now))
		}
		if again := callAll(g); again != first {
			t.Errorf("row %d: %s, then %s", i, show(first), show(again))
		}
	}
}

// TestSpareRoomIsNotLookedAt: what stands behind the ends of lists is no part of them.
func TestSpareRoomIsNotLookedAt(t *testing.T) {
	h := cloned(filled(3))
	first, behind := cut(h, 1, 1), h.Types[1].Name
	wantFind(t, first, behind, -1)
	wantNoColumns(t, first, 1, 1, api.ErrType)
	wantNoColumns(t, first, 0, 2, api.ErrVersion)
	cols := filled(3).Types[0].Versions[0].Columns
	wantNoColumn(t, cols[:1], cols[1].Name)
	wantExtends(t, h, first, false, true)
	typed := allKinds()
	wantTyped(t, typed[:2], recordOf(typed)[:3], api.ErrTyped)
	wantTyped(t, typed[:3], recordOf(typed)[:2], api.ErrTyped)
}

// reach are the places of a list's memory, from its beginning to the end of its spare room.
func reach(cols []api.Column) (uintptr, uintptr) {
	from := reflect.ValueOf(cols).Pointer()
	return from, from + uintptr(cap(cols))*unsafe.Sizeof(api.Column{})
}

func share(a []api.Column, b []api.Column) bool {
	from, to := reach(a)
	otherFrom, otherTo := reach(b)
	return from < otherTo && otherFrom < to
}

func TestColumnsAnswersNewMemory(t *testing.T) {
	for _, g := range givens() {
		was := wholeOf(&g)
		for place := range g.A.Types {
			for j := range g.A.Types[place].Versions {
				want := slices.Clone(g.A.Types[place].Versions[j].Columns)
				first, _ := table.Columns(g.A, place, j+1)
				second, _ := table.Columns(g.A, place, j+1)
				own := g.A.Types[place].Versions[j].Columns
				if share(first, second) || share(first, own) || share(second, own) {
					t.Errorf("type %d, version %d: two lists share memory", place, j+1)
				}
				for _, l := range [][]api.Column{own[:cap(own)], first} {
					fill(&l, 0, 9000)
				}
				if !slices.Equal(second, want) {
					t.Errorf("type %d, version %d: %s became %s", place, j+1, show(want), show(second))
				}
				copy(own, want)
			}
		}
		for place := range g.A.Types { // and written into, as far as it goes, it changes nothing that was handed in
			for j := range g.A.Types[place].Versions {
				whole := wholeOf(&g)
				cols, _ := table.Columns(g.A, place, j+1)
				cols = cols[:cap(cols)]
				fill(&cols, 0, 9000)
				if now := wholeOf(&g); now != whole {
					t.Errorf("type %d, version %d: %s became %s", place, j+1, show(was), show(now))
				}
			}
		}
	}
}

func TestColumnsOfTwoVersionsShareNothing(t *testing.T) {
	same := []api.Column{col("a", 1, 1), col("b", 2, 4)} // one list in two versions
	h := history(typ("x", same, same), typ("y", same))
	a, _ := table.Columns(h, 0, 1)
	b, _ := table.Columns(h, 0, 2)
	c, _ := table.Columns(h, 1, 1)
	if share(a, b) || share(a, c) || share(b, c) {
		t.Error("two lists share memory")
	}
	clear(a[:cap(a)])
	clear(b[:cap(b)])
	if !slices.Equal(c, same) || same[0] != col("a", 1, 1) {
		t.Errorf("%v, %v", c, same)
	}
	wantColumns(t, h, 0, 1, same)
}

// TestNamesAreNewMemory: an answer holds on to no text that was handed in.
func TestNamesAreNewMemory(t *testing.T) {
	name := strings.Clone("a name of some bytes")
	h := history(typ("x", []api.Column{col(name, 1, 1)}))
	first, _ := table.Columns(h, 0, 1)
	second, _ := table.Columns(h, 0, 1)
	third, _ := table.Column(h.Types[0].Versions[0].Columns, name)
	fourth, _ := table.Column(h.Types[0].Versions[0].Columns, strings.Clone(name))
	all := []string{name, first[0].Name, second[0].Name, third.Name, fourth.Name}
	for i := range all {
		for j := range i {
			if all[i] != all[j] || unsafe.StringData(all[i]) == unsafe.StringData(all[j]) {
				t.Errorf("%d and %d: %s, %s", i, j, all[i], all[j])
			}
		}
	}
}

func TestCallsBesideOneAnother(t *testing.T) {
	all := givens()
	var want []string
	for _, g := range all {
		want = append(want, callAll(g))
	}
	var running sync.WaitGroup
	for range 8 {
		running.Go(func() {
			for range 20 {
				for i, g := range all {
					if out := callAll(g); out != want[i] {
						t.Errorf("row %d: %s, then %s", i, show(want[i]), show(out))
					}
				}
			}
		})
	}
	running.Wait()
}
