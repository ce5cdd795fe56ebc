package table_test

import (
	"reflect"
	"slices"
	"strings"
	"testing"

	"stratum/api"
	"stratum/table"
)

// wantExtends looks at both ways round.
func wantExtends(t *testing.T, a api.History, b api.History, forth bool, back bool) {
	t.Helper()
	if table.Extends(a, b) != forth || table.Extends(b, a) != back {
		t.Errorf("%v and %v, not %v and %v: %s\n%s", table.Extends(a, b), table.Extends(b, a), forth, back, show(a), show(b))
	}
}

// cut is a history with so many of its first types, and so many of the first versions of each.
func cut(h api.History, types int, versions int) api.History {
	h = cloned(h)
	h.Types = h.Types[:min(types, len(h.Types))]
	for i := range h.Types {
		t := &h.Types[i]
		t.Versions = t.Versions[:min(versions, len(t.Versions))]
	}
	return h
}

// The chapter's example 4

func TestExamplesOfExtends(t *testing.T) {
	h := order()
	wantExtends(t, cut(h, 1, 1), h, true, false)
	wantExtends(t, api.History{}, h, true, false)
	wantExtends(t, h, order(), true, true)
	other := order()
	other.Types[0].Versions[1].Steps[1].Val.N = 1 // another default
	wantExtends(t, h, other, false, false)
	wantExtends(t, cut(h, 1, 1), other, true, false)
}

// P13.5

func TestEveryHistoryExtendsItself(t *testing.T) {
	for _, h := range []api.History{{}, {Types: []api.Type{}}, {Types: []api.Type{{}}}, order(), ragged(), filled(1), filled(2), filled(3), history(typ("a"), typ("a")), history(typ("", nil, nil))} {
		if !table.Extends(h, h) { // the very same lists
			t.Error(show(h))
		}
		wantExtends(t, h, cloned(h), true, true)
		wantExtends(t, api.History{}, h, true, len(h.Types) == 0)
		wantExtends(t, api.History{Types: []api.Type{}}, h, true, len(h.Types) == 0)
	}
}

func TestBeginningsAreExtended(t *testing.T) {
	h := filled(4)
	for types := range 5 {
		for versions := range 5 {
			short := cut(h, types, versions)
			wantExtends(t, short, h, true, types == 4 && versions == 4)
			for more := types; more <= 4; more++ {
				wantExtends(t, short, cut(h, more, 4), true, types == more && (versions == 4 || types == 0))
			}
		}
	}
}

func TestEachTypeByItself(t *testing.T) {
	h := filled(3)
	for i := range 3 {
		for versions := range 3 {
			short := cloned(h)
			short.Types[i].Versions = short.Types[i].Versions[:versions]
			wantExtends(t, short, h, true, false)
			other := cloned(h) // each has more than the other one
			other.Types[(i+1)%3].Versions = other.Types[(i+1)%3].Versions[:versions]
			wantExtends(t, short, other, false, false)
			fewer := cut(h, 2, 3) // fewer types here, fewer versions there
			if i < 2 {
				wantExtends(t, short, fewer, false, false)
			}
		}
	}
}

// TestOfAVersionAllIsAsked: a version that has more steps or columns than another one doesn't extend it.
func TestOfAVersionAllIsAsked(t *testing.T) {
	h := filled(3)
	for i := range 3 {
		for j := range 3 {
			for n := range 3 {
				short := cloned(h)
				v := &short.Types[i].Versions[j]
				v.Steps = v.Steps[:n]
				wantExtends(t, short, h, false, false)
				short = cloned(h)
				v = &short.Types[i].Versions[j]
				v.Columns = v.Columns[:n]
				wantExtends(t, short, h, false, false)
			}
		}
	}
}

// changes are other values of a field.
func changes(v reflect.Value) []any {
	switch x := v.Interface().(type) {
	case int:
		return []any{x + 1, x - 1, 0, -x, x + 1<<32, x | -1<<63, x + 65536, 1<<63 - 1}
	case uint64:
		return []any{x + 1, x - 1, uint64(0), -x, x + 1<<32, x | 1<<63, uint64(1<<64 - 1)}
	case string:
		return []any{"", x + "x", "x" + x, x[:len(x)-1], x[1:], strings.ToUpper(x), x + "\x00", x + " ", "\xff" + x[1:]}
	}
	panic(v.Type())
}

func TestEachFieldChangedByItself(t *testing.T) {
	h := filled(3)
	long := cloned(h) // with a type and a version more
	long.Types = append(long.Types, filled(1).Types...)
	for i := range long.Types {
		long.Types[i].Versions = append(long.Types[i].Versions, filled(1).Types[0].Versions...)
	}
	short := cut(h, 2, 2)
	count := 0
	for at, was := range partsOf(&h, isLeaf) {
		for _, x := range changes(was) {
			g := cloned(h)
			partsOf(&g, isLeaf)[at].Set(reflect.ValueOf(x))
			wantExtends(t, h, g, false, false)
			wantExtends(t, g, long, false, false)
			wantExtends(t, g, cloned(g), true, true)
			wantExtends(t, short, g, plainExtends(short, g), false)
			count++
		}
	}
	if count < 3*3*3*60 {
		t.Errorf("only %d changes", count)
	}
}

func TestWhatIsBehindMayBeAny(t *testing.T) {
	short, h := filled(2), filled(2)
	for i := range h.Types {
		h.Types[i].Versions = append(h.Types[i].Versions, filled(3).Types[0].Versions...)
	}
	h.Types = append(h.Types, filled(3).Types...)
	changed := 0
	for at, was := range partsOf(&h, isLeaf) {
		for _, x := range changes(was) {
			g := cloned(h)
			partsOf(&g, isLeaf)[at].Set(reflect.ValueOf(x))
			want := plainExtends(short, g)
			wantExtends(t, short, g, want, false)
			if !want {
				changed++
			}
		}
	}
	if all := len(partsOf(&short, isLeaf)); changed < 7*all || changed > 9*all {
		t.Errorf("%d of %d", changed, all)
	}
}

// edits are lists of which one item is gone, one is there twice, two are in each other's place, or one is new.
func edits(l reflect.Value) []reflect.Value {
	var out []reflect.Value
	put := func(pieces ...reflect.Value) {
		all := reflect.MakeSlice(l.Type(), 0, 0)
		for _, piece := range pieces {
			all = reflect.AppendSlice(all, piece)
		}
		out = append(out, all)
	}
	n := l.Len()
	put()
	fresh := reflect.MakeSlice(l.Type(), 1, 1)
	for i := range n {
		put(l.Slice(0, i), l.Slice(i+1, n))
		put(l.Slice(0, i), l.Slice(i, i+1), l.Slice(i, n))
		put(l.Slice(0, i), fresh, l.Slice(i, n))
		put(l.Slice(0, i), fresh, l.Slice(i+1, n))
		for j := range i {
			put(l.Slice(0, j), l.Slice(i, i+1), l.Slice(j+1, i), l.Slice(j, j+1), l.Slice(i+1, n))
		}
	}
	put(l, fresh)
	return out
}

// canGrow: whether a list is one of types or of versions.
func canGrow(l reflect.Value) bool {
	return l.Type() == reflect.TypeFor[[]api.Type]() || l.Type() == reflect.TypeFor[[]api.Version]()
}

func TestEachListChangedByItself(t *testing.T) {
	for _, h := range []api.History{filled(1), filled(2), filled(3), order()} {
		forth, back := 0, 0
		for at, l := range partsOf(&h, isList) {
			for _, other := range edits(l) {
				g := cloned(h)
				partsOf(&g, isList)[at].Set(other)
				wantExtends(t, h, g, plainExtends(h, g), plainExtends(g, h))
				if !canGrow(l) && plainExtends(h, g) {
					t.Errorf("of a version's list %s", show(other))
				}
				if plainExtends(h, g) {
					forth++
				}
				if plainExtends(g, h) {
					back++
				}
			}
		}
		if lists := 1 + len(h.Types); forth < lists || back < lists { // each can be longer, and shorter
			t.Errorf("%d, %d of %d", forth, back, lists)
		}
	}
}

func TestListsThatAreNilAndListsThatAreEmpty(t *testing.T) {
	for _, h := range []api.History{filled(1), filled(2), order()} {
		for at, l := range partsOf(&h, isList) {
			none, empty := cloned(h), cloned(h)
			partsOf(&none, isList)[at].SetZero()
			partsOf(&empty, isList)[at].Set(reflect.MakeSlice(l.Type(), 0, 3))
			wantExtends(t, none, empty, true, true)
			wantExtends(t, none, h, canGrow(l), false)
			wantExtends(t, empty, h, canGrow(l), false)
		}
	}
	wantExtends(t, api.History{}, api.History{Types: []api.Type{}}, true, true)
}

func TestTypesArePlacesNotNames(t *testing.T) {
	a, b := typ("a", []api.Column{col("x", 1, 1)}), typ("b", []api.Column{col("y", 1, 2)})
	wantExtends(t, history(a, b), history(b, a), false, false)
	wantExtends(t, history(a), history(b, a), false, false)
	wantExtends(t, history(b), history(b, a), true, false)
	wantExtends(t, history(a), history(a, a), true, false)
	wantExtends(t, history(a, a), history(a, b), false, false)
	wantExtends(t, history(typ("a")), history(typ("A")), false, false)
	wantExtends(t, history(typ("")), history(typ("a")), false, false)
	wantExtends(t, history(typ("a")), history(a), true, false)
}

func TestStepsAndColumnsStandApart(t *testing.T) {
	one := history(api.Type{Name: "a", Versions: []api.Version{{Steps: []api.Step{{Kind: 1, A: 1}, {Kind: 6, A: 1}}}}})
	two := history(api.Type{Name: "a", Versions: []api.Version{{Steps: []api.Step{{Kind: 1, A: 1}}}, {Steps: []api.Step{{Kind: 6, A: 1}}}}})
	wantExtends(t, one, two, false, false) // the same steps, in other versions
}

// By chance

// rawHistory is one of a few small ones, so that many are alike in parts.
func (r *lcg) rawHistory() api.History {
	var h api.History
	for i := range r.below(4) {
		t := api.Type{Name: oneOf(r, "a", "a", "a", "b")}
		for j := range r.below(4) {
			v := api.Version{Columns: []api.Column{col("c", i, j)}}
			for range oneOf(r, 0, 1, 1, 1, 1, 1, 2) {
				v.Steps = append(v.Steps, api.Step{Kind: oneOf(r, 1, 1, 1, 1, 1, 2)})
			}
			t.Versions = append(t.Versions, v)
		}
		h.Types = append(h.Types, t)
	}
	return h
}

func TestExtendsByChance(t *testing.T) {
	r := lcg(3)
	var forth, both, through int
	for range 50000 {
		a, b, c := r.rawHistory(), r.rawHistory(), r.rawHistory()
		wantExtends(t, a, b, plainExtends(a, b), plainExtends(b, a))
		switch {
		case table.Extends(a, b) && table.Extends(b, a):
			both++
			if !slices.EqualFunc(a.Types, b.Types, func(x, y api.Type) bool {
				return x.Name == y.Name && slices.EqualFunc(x.Versions, y.Versions, sameTold)
			}) {
				t.Errorf("%s\n%s", show(a), show(b))
			}
		case table.Extends(a, b):
			forth++
		}
		if table.Extends(a, b) && table.Extends(b, c) {
			through++
			wantExtends(t, a, c, true, plainExtends(c, a))
		}
	}
	if forth < 5000 || both < 1000 || through < 2000 {
		t.Errorf("only %d, %d, %d", forth, both, through)
	}
}

func sameTold(v api.Version, w api.Version) bool { return told(v) == told(w) }
