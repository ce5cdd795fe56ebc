package table_test

import (
	"slices"
	"strconv"
	"strings"
	"testing"

	"stratum/api"
	"stratum/check"
	"stratum/table"
)

func wantFind(t *testing.T, h api.History, name string, want int) {
	t.Helper()
	if at := table.Find(h, name); at != want {
		t.Errorf("Find(%s, %q): %d, not %d", show(h), name, at, want)
	}
}

func wantColumns(t *testing.T, h api.History, typ int, version int, want []api.Column) {
	t.Helper()
	if cols, err := table.Columns(h, typ, version); !slices.Equal(cols, want) || err != api.OK {
		t.Errorf("Columns(%s, %d, %d): %s, %d, not %s", show(h), typ, version, show(cols), err, show(want))
	}
}

func wantNoColumns(t *testing.T, h api.History, typ int, version int, want api.Errno) {
	t.Helper()
	if cols, err := table.Columns(h, typ, version); len(cols) != 0 || err != want {
		t.Errorf("Columns(%s, %d, %d): %s, %d, not %d", show(h), typ, version, show(cols), err, want)
	}
}

func wantColumn(t *testing.T, cols []api.Column, name string, want api.Column) {
	t.Helper()
	if c, ok := table.Column(cols, name); c != want || !ok {
		t.Errorf("Column(%s, %q): %+v, %v, not %+v", show(cols), name, c, ok, want)
	}
}

func wantNoColumn(t *testing.T, cols []api.Column, name string) {
	t.Helper()
	if c, ok := table.Column(cols, name); c != (api.Column{}) || ok {
		t.Errorf("Column(%s, %q): %+v, %v", show(cols), name, c, ok)
	}
}

// The chapter's examples 1 and 2

func TestExamplesOfTheLooks(t *testing.T) {
	h := order()
	wantFind(t, h, "order", 0)
	wantFind(t, h, "Order", -1)
	wantFind(t, h, "", -1)
	wantColumns(t, h, 0, 1, []api.Column{col("id", 1, 1), col("note", 2, 4)})
	wantColumns(t, h, 0, 2, []api.Column{col("id", 1, 1), col("memo", 2, 4), col("paid", 3, 3)})
	wantNoColumns(t, h, 1, 1, api.ErrType)
	wantNoColumns(t, h, -1, 1, api.ErrType)
	wantNoColumns(t, h, 0, 0, api.ErrVersion)
	wantNoColumns(t, h, 0, 3, api.ErrVersion)
	wantNoColumns(t, h, 5, 9, api.ErrType)
	two := h.Types[0].Versions[1].Columns
	wantColumn(t, two, "memo", api.Column{Name: "memo", Tag: 2, Kind: 4})
	wantNoColumn(t, two, "note")
}

// TestOfATextsHistory: what check makes of a text is looked at like any other history.
func TestOfATextsHistory(t *testing.T) {
	one := "event order { version 1 { add id: uint; add note: text; }"
	h, _, err := check.Text(one + " version 2 { rename note to memo; add paid: bool = false; } }")
	ahead, _, aheadErr := check.Text(one + " }")
	if err != api.OK || aheadErr != api.OK {
		t.Fatal(err, aheadErr)
	}
	wantExtends(t, h, order(), true, true)
	wantExtends(t, ahead, h, true, false)
	wantFind(t, h, "order", 0)
	cols, _ := table.Columns(h, 0, 2)
	wantColumn(t, cols, "memo", col("memo", 2, text))
	wantTyped(t, cols, []api.Field{field(1, unsigned, 7, ""), field(2, text, 0, "x"), field(3, truth, 1, "")}, api.OK)
	wantTyped(t, cols, []api.Field{field(1, unsigned, 7, ""), field(2, text, 0, "x")}, api.ErrTyped)
}

// texts are names by which types and columns may be called, all unlike.
func texts() []string {
	return []string{"a", "b", "A", "ab", "ba", "a ", " a", "a\x00", "\x00", "\xff", "é", "e\u0301", "event", strings.Repeat("n", 64), strings.Repeat("n", 65), strings.Repeat("n", 70000), "1"}
}

// P13.1

func TestFindOfNamesThatAreThereOnce(t *testing.T) {
	for _, names := range [][]string{texts(), {"a"}, {"", "a"}, {"a", ""}} {
		var h api.History
		for _, name := range names {
			h.Types = append(h.Types, typ(name))
		}
		for at, name := range names {
			wantFind(t, h, name, at)
			wantFind(t, h, strings.Clone(name + "x")[:len(name)], at)
		}
	}
}

func TestFindOfNamesThatAreThereTwice(t *testing.T) {
	names := texts()
	for i := range names {
		for j := range i {
			var h api.History
			for _, name := range names {
				h.Types = append(h.Types, typ(name))
			}
			h.Types[i].Name = names[j]
			wantFind(t, h, names[j], j)
			wantFind(t, h, names[i], -1)
		}
	}
	wantFind(t, history(typ("b"), typ("a"), typ("a"), typ("a")), "a", 1)
	wantFind(t, history(typ("a"), typ("b"), typ("a")), "a", 0)
	wantFind(t, history(typ("a"), typ(""), typ("")), "", 1)
}

func TestFindOfNamesThatAreNotThere(t *testing.T) {
	for _, name := range texts() {
		var h api.History
		for _, other := range texts() {
			if other != name {
				h.Types = append(h.Types, typ(other))
			}
		}
		wantFind(t, h, name, -1)
		wantFind(t, h, "", -1)
		wantFind(t, api.History{}, name, -1)
		wantFind(t, api.History{Types: []api.Type{}}, name, -1)
	}
	wantFind(t, api.History{}, "", -1)
	wantFind(t, api.History{Types: []api.Type{}}, "", -1)
	wantFind(t, order(), "id", -1) // a column's name is no type's
	wantFind(t, order(), "orde", -1)
	wantFind(t, order(), "rder", -1)
	wantFind(t, order(), "orderr", -1)
}

func TestFindLooksAtNamesAlone(t *testing.T) {
	h := history(typ("a"), typ("b", nil), typ("c", []api.Column{col("b", 1, 1)}), filled(2).Types[0])
	h.Types[3].Name = "d"
	for at, name := range []string{"a", "b", "c", "d"} {
		wantFind(t, h, name, at)
	}
}

func TestFindInHistoriesOfManyTypes(t *testing.T) {
	var h api.History
	for i := range 70000 { // more than a valid history has
		h.Types = append(h.Types, typ("t"+strconv.Itoa(i)))
	}
	for _, i := range []int{0, 1, 1023, 1024, 1025, 65535, 65536, 69999} {
		wantFind(t, h, "t"+strconv.Itoa(i), i)
	}
	wantFind(t, h, "t70000", -1)
}

// P13.2

// ragged is a history of types with 0, 1, 2 and more versions, with 0, 1, 2 and more columns.
func ragged() api.History {
	var h api.History
	for i := range 5 {
		t := typ("t")
		for j := range (i * 3) % 5 {
			var cols []api.Column
			for k := range (i + j) % 4 {
				cols = append(cols, col("c"+strconv.Itoa(k%2), 100*i+10*j-k, k-1))
			}
			t.Versions = append(t.Versions, api.Version{Columns: cols, Steps: filled(1).Types[0].Versions[0].Steps})
		}
		h.Types = append(h.Types, t)
	}
	return h
}

func TestColumnsAtEveryPlaceAndVersion(t *testing.T) {
	for _, h := range []api.History{order(), ragged(), filled(3), {}, history(typ("a")), history(typ("a", nil)), history(typ("a", []api.Column{}))} {
		for place := -3; place < len(h.Types)+3; place++ {
			for version := -3; version < 10; version++ {
				want, err := plainColumns(h, place, version)
				if err == api.OK {
					wantColumns(t, h, place, version, want)
				} else {
					wantNoColumns(t, h, place, version, err)
				}
			}
		}
	}
}

func TestColumnsOutside(t *testing.T) {
	h := filled(3)
	for _, version := range []int{1, 2, 3} {
		wantColumns(t, h, 0, version, h.Types[0].Versions[version-1].Columns)
		wantColumns(t, h, 2, version, h.Types[2].Versions[version-1].Columns)
		wantNoColumns(t, h, -1, version, api.ErrType)
		wantNoColumns(t, h, 3, version, api.ErrType)
	}
	for place := range 3 {
		wantNoColumns(t, h, place, 0, api.ErrVersion)
		wantNoColumns(t, h, place, 4, api.ErrVersion)
		wantNoColumns(t, h, place, -1, api.ErrVersion)
	}
	for _, x := range far() {
		wantNoColumns(t, h, x, 1, api.ErrType)
		wantNoColumns(t, h, 1, x, api.ErrVersion)
		wantNoColumns(t, api.History{}, x, 1, api.ErrType)
		wantNoColumns(t, api.History{}, 0, x, api.ErrType)
		for _, y := range far() {
			wantNoColumns(t, h, x, y, api.ErrType)
		}
	}
}

func TestNoTypeIsToldAheadOfNoVersion(t *testing.T) {
	h := filled(2)
	for _, place := range append(far(), -1, 2) {
		for _, version := range append(far(), -1, 0, 3) {
			wantNoColumns(t, h, place, version, api.ErrType)
		}
	}
	wantNoColumns(t, history(typ("a")), 0, 1, api.ErrVersion) // a type without versions is a type
	wantNoColumns(t, history(typ("a")), 1, 1, api.ErrType)
	wantNoColumns(t, history(typ("a"), typ("b", nil)), 0, 1, api.ErrVersion) // whatever another one has
	wantNoColumns(t, history(typ("a", nil), typ("b", nil, nil)), 0, 2, api.ErrVersion)
	wantColumns(t, history(typ("a"), typ("b", nil)), 1, 1, nil)
}

func TestColumnsAsTheyStand(t *testing.T) {
	for _, cols := range [][]api.Column{
		nil,
		{},
		{{}},
		{col("b", 2, 1), col("a", 1, 1)},     // tags that fall
		{col("a", 1, 1), col("a", 1, 1)},     // alike
		{col("", 0, 0), col("\xff", -1, -1)}, // none of it can be
		{col("a", 1<<62, 6), col("1 a", 65536, 100)}, // nor of this
		{col(strings.Repeat("n", 70000), 3, 5)},
	} {
		wantColumns(t, history(typ("x", []api.Column{col("q", 9, 1)}, cols, []api.Column{col("r", 9, 1)})), 0, 2, cols)
		wantColumns(t, history(typ(""), typ("", cols)), 1, 1, cols)
	}
}

func TestColumnsOfManyVersions(t *testing.T) {
	var h api.History
	h.Types = append(h.Types, typ("a"), typ("b"))
	for j := range 70000 { // more than a valid type has
		h.Types[1].Versions = append(h.Types[1].Versions, api.Version{Columns: []api.Column{col("c", j, 1)}})
	}
	for _, version := range []int{1, 2, 255, 256, 65535, 65536, 65537, 70000} {
		wantColumns(t, h, 1, version, []api.Column{col("c", version-1, 1)})
	}
	wantNoColumns(t, h, 1, 70001, api.ErrVersion)
}

// P13.3

func TestColumnOfNamesThatAreThereOnce(t *testing.T) {
	for _, names := range [][]string{texts(), {"a"}, {"", "a"}, {"a", ""}} {
		var cols []api.Column
		for i, name := range names {
			cols = append(cols, col(name, 3*i-4, 7-i))
		}
		for i, name := range names {
			wantColumn(t, cols, name, cols[i])
			wantColumn(t, cols, strings.Clone(name + "x")[:len(name)], cols[i])
		}
	}
}

func TestColumnOfNamesThatAreThereTwice(t *testing.T) {
	names := texts()
	for i := range names {
		for j := range i {
			var cols []api.Column
			for k, name := range names {
				cols = append(cols, col(name, 3*k-4, 7-k))
			}
			cols[i].Name = names[j]
			wantColumn(t, cols, names[j], cols[j])
			wantNoColumn(t, cols, names[i])
		}
	}
	cols := []api.Column{col("b", 9, 9), col("a", 5, 4), col("a", 1, 1), col("a", 7, 5)} // not the one of the least tag
	wantColumn(t, cols, "a", col("a", 5, 4))
	wantColumn(t, []api.Column{col("", 5, 4), col("", 1, 1)}, "", col("", 5, 4))
	wantColumn(t, []api.Column{col("a", 0, 0), col("a", 1, 1)}, "a", col("a", 0, 0))
}

func TestColumnOfNamesThatAreNotThere(t *testing.T) {
	for _, name := range texts() {
		var cols []api.Column
		for i, other := range texts() {
			if other != name {
				cols = append(cols, col(other, i+1, 1))
			}
		}
		wantNoColumn(t, cols, name)
		wantNoColumn(t, cols, "")
		wantNoColumn(t, nil, name)
		wantNoColumn(t, []api.Column{}, name)
	}
	wantNoColumn(t, nil, "")
	wantNoColumn(t, []api.Column{}, "")
	wantNoColumn(t, []api.Column{col("note", 1, 4)}, "Note")
}

// All of them, by chance

// rawName is mostly one of a few.
func (r *lcg) rawName() string {
	return oneOf(r, "", "a", "a", "b", "b", "c", "ab", "\xff")
}

func (r *lcg) columns(most int) []api.Column {
	var cols []api.Column
	for range r.below(most + 1) {
		cols = append(cols, col(r.rawName(), r.below(4)-1, r.below(7)))
	}
	return cols
}

func TestLooksByChance(t *testing.T) {
	r := lcg(1)
	for range 20000 {
		var h api.History
		for range r.below(5) {
			x := typ(r.rawName())
			for range r.below(4) {
				x.Versions = append(x.Versions, api.Version{Columns: r.columns(4)})
			}
			h.Types = append(h.Types, x)
		}
		name := r.rawName()
		wantFind(t, h, name, plainFind(h, name))
		place, version := r.below(7)-1, r.below(6)-1
		want, wantErr := plainColumns(h, place, version)
		cols, err := table.Columns(h, place, version)
		if !slices.Equal(cols, want) || err != wantErr {
			t.Fatalf("Columns(%s, %d, %d): %s, %d, not %s, %d", show(h), place, version, show(cols), err, show(want), wantErr)
		}
		c, ok := table.Column(want, name)
		if plain, there := plainColumn(want, name); c != plain || ok != there {
			t.Fatalf("Column(%s, %q): %+v, %v", show(want), name, c, ok)
		}
	}
}
