package table_test

import (
	"fmt"
	"math"
	"reflect"
	"slices"
	"strconv"
	"strings"
	"unicode/utf8"

	"stratum/api"
)

// The calls as the chapter tells them, without the packages that table leans on; and what the tests have in common.

// The kinds' numbers, as DOC.md's table has them.
const (
	unsigned = 1
	signed   = 2
	truth    = 3
	text     = 4
	raw      = 5
)

func plainFind(h api.History, name string) int {
	for at := range h.Types {
		if h.Types[at].Name == name {
			return at
		}
	}
	return -1
}

func plainColumns(h api.History, typ int, version int) ([]api.Column, api.Errno) {
	for i, t := range h.Types {
		for j, v := range t.Versions {
			if i == typ && j+1 == version {
				return v.Columns, api.OK
			}
		}
		if i == typ {
			return nil, api.ErrVersion
		}
	}
	return nil, api.ErrType
}

func plainColumn(cols []api.Column, name string) (api.Column, bool) {
	var found []api.Column
	for _, c := range cols {
		if c.Name == name {
			found = append(found, c)
		}
	}
	if len(found) == 0 {
		return api.Column{}, false
	}
	return found[0], true
}

// plainValid: whether v is valid, as DOC.md's Words have it.
func plainValid(v api.Value) bool {
	switch v.Kind {
	case unsigned, signed:
		return v.S == ""
	case truth:
		return v.S == "" && (v.N == 0 || v.N == 1)
	case text:
		return v.N == 0 && utf8.ValidString(v.S)
	case raw:
		return v.N == 0
	}
	return false
}

// plainGroups: how many groups of seven bits a number has.
func plainGroups(x uint64) int {
	n := 1
	for ; x >= 128; x /= 128 {
		n++
	}
	return n
}

// plainPayload: how many bytes the payload of a valid value has.
func plainPayload(v api.Value) int {
	switch {
	case v.Kind == unsigned:
		return plainGroups(v.N)
	case v.Kind == signed && v.N < 1<<63:
		return plainGroups(2 * v.N)
	case v.Kind == signed:
		return plainGroups(2*(math.MaxUint64-v.N) + 1)
	case v.Kind == truth:
		return 1
	}
	return len(v.S)
}

// plainSize: how many bytes a record has.
func plainSize(rec []api.Field) int {
	size := 0
	for _, f := range rec {
		n := plainPayload(f.Val)
		size += plainGroups(uint64(8*f.Tag+f.Val.Kind)) + plainGroups(uint64(n)) + n
	}
	return size
}

func plainTyped(cols []api.Column, rec []api.Field) api.Errno {
	if len(cols) != len(rec) {
		return api.ErrTyped
	}
	for i, f := range rec {
		if f.Tag != cols[i].Tag || f.Val.Kind != cols[i].Kind || !plainValid(f.Val) {
			return api.ErrTyped
		}
		if f.Tag < 1 || f.Tag > 65535 || i > 0 && f.Tag <= rec[i-1].Tag {
			return api.ErrTyped
		}
	}
	if plainSize(rec) > 16777215 {
		return api.ErrLong
	}
	return api.OK
}

// told is a version as a text; lists that hold nothing are told alike.
func told(v api.Version) string {
	var out strings.Builder
	for _, s := range v.Steps {
		fmt.Fprintf(&out, "%#v\n", s)
	}
	out.WriteString("columns\n")
	for _, c := range v.Columns {
		fmt.Fprintf(&out, "%#v\n", c)
	}
	return out.String()
}

func plainExtends(a api.History, b api.History) bool {
	if len(b.Types) < len(a.Types) {
		return false
	}
	for i, t := range a.Types {
		u := b.Types[i]
		if t.Name != u.Name || len(u.Versions) < len(t.Versions) {
			return false
		}
		for j, v := range t.Versions {
			if told(v) != told(u.Versions[j]) {
				return false
			}
		}
	}
	return true
}

// Histories, columns and fields

func col(name string, tag int, kind int) api.Column {
	return api.Column{Name: name, Tag: tag, Kind: kind}
}

func field(tag int, kind int, n uint64, s string) api.Field {
	return api.Field{Tag: tag, Val: api.Value{Kind: kind, N: n, S: s}}
}

func history(types ...api.Type) api.History {
	return api.History{Types: types}
}

// typ is a type whose versions have these columns, and no steps.
func typ(name string, versions ...[]api.Column) api.Type {
	t := api.Type{Name: name}
	for _, cols := range versions {
		t.Versions = append(t.Versions, api.Version{Columns: cols})
	}
	return t
}

// order is the chapter's H.
func order() api.History {
	h := history(typ("order",
		[]api.Column{col("id", 1, unsigned), col("note", 2, text)},
		[]api.Column{col("id", 1, unsigned), col("memo", 2, text), col("paid", 3, truth)},
	))
	h.Types[0].Versions[0].Steps = []api.Step{{Kind: api.StepAdd, A: 1}, {Kind: api.StepAdd, A: 2}}
	h.Types[0].Versions[1].Steps = []api.Step{{Kind: api.StepRename, A: 2}, {Kind: api.StepAdd, A: 3, Val: api.Value{Kind: truth}}}
	return h
}

// walk goes through all parts of what p points to, lists' items too, from the outside in and from the front on.
func walk(p any, look func(v reflect.Value)) {
	var down func(v reflect.Value)
	down = func(v reflect.Value) {
		look(v)
		switch v.Kind() {
		case reflect.Struct:
			for i := range v.NumField() {
				down(v.Field(i))
			}
		case reflect.Slice:
			for i := range v.Len() {
				down(v.Index(i))
			}
		}
	}
	down(reflect.ValueOf(p).Elem())
}

// fill writes into all fields of what p points to, each another number or text, from count on; lists that hold nothing
// get so many items.
func fill(p any, items int, count int) {
	walk(p, func(v reflect.Value) {
		switch v.Kind() {
		case reflect.Slice:
			if v.Len() == 0 {
				v.Set(reflect.MakeSlice(v.Type(), items, items))
			}
			return
		case reflect.Struct:
			return
		}
		count++
		switch v.Kind() {
		case reflect.String:
			v.SetString("t" + strconv.Itoa(count))
		case reflect.Uint64:
			v.SetUint(uint64(count))
		default:
			v.SetInt(int64(count))
		}
	})
}

// filled is a raw history of so many types, with so many versions each, and so many steps and columns in each.
func filled(items int) api.History {
	var h api.History
	fill(&h, items, 100)
	return h
}

// cloned is a history in other memory; a list that is nil is nil in it.
func cloned(h api.History) api.History {
	walk(&h, func(v reflect.Value) {
		if v.Kind() == reflect.Slice && !v.IsNil() {
			l := reflect.MakeSlice(v.Type(), v.Len(), v.Len())
			reflect.Copy(l, v)
			v.Set(l)
		}
	})
	return h
}

// partsOf are those parts of a history that are of a form: its lists, or its fields.
func partsOf(h *api.History, is func(k reflect.Kind) bool) []reflect.Value {
	var out []reflect.Value
	walk(h, func(v reflect.Value) {
		if is(v.Kind()) {
			out = append(out, v)
		}
	})
	return out
}

func isList(k reflect.Kind) bool { return k == reflect.Slice }

func isLeaf(k reflect.Kind) bool { return k != reflect.Slice && k != reflect.Struct }

// show is anything as a text, cut short where it is long.
func show(what any) string {
	s := strings.ReplaceAll(fmt.Sprintf("%#v", what), "api.", "")
	if len(s) > 1000 {
		return s[:1000] + ".."
	}
	return s
}

// lcg is a row of numbers that is the same in every run.
type lcg uint64

func (r *lcg) below(n int) int {
	*r = *r*6364136223846793005 + 1442695040888963407
	return int(uint64(*r) >> 33 % uint64(n))
}

func oneOf[T any](r *lcg, all ...T) T {
	return all[r.below(len(all))]
}

// far are whole numbers that are no places, far away and at the ends.
func far() []int {
	return []int{math.MinInt, math.MinInt + 1, math.MinInt32, -65536, -3, -2, 1000, 65536, math.MaxInt32, 1 << 32, 1<<32 + 1, 1 << 62, math.MaxInt - 1, math.MaxInt}
}

// noKinds are numbers that no kind has.
func noKinds() []int {
	return slices.Concat(far(), []int{-1, 0, 6, 7, 8, 9, 257})
}
