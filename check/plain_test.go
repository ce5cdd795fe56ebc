package check_test

import (
	"fmt"
	"reflect"
	"regexp"
	"slices"
	"strings"
	"unicode/utf8"

	"stratum/api"
	"stratum/expr"
)

// The calls as the chapter tells them: step by step over a plain list of columns, fields by their names, and the names
// of a version at each of its moments.

// words are chapter 9's eighteen.
var words = strings.Fields("event version add rename split join retype drop to at into with true false cat rep len hex")

// kinds are the names of the kinds, at their numbers.
var kinds = []string{"", "uint", "int", "bool", "text", "bytes"}

// conversions are chapter 6's, by the kinds that they take and make.
var conversions = map[[2]int]int{
	{1, 2}: 1, {2, 1}: 2, {1, 4}: 3, {2, 4}: 4, {4, 1}: 5, {4, 2}: 6, {3, 4}: 7, {4, 3}: 8, {3, 1}: 9, {1, 3}: 10, {4, 5}: 11, {5, 4}: 12,
}

// fieldsOf are the fields that a step as it is written has, names first; all but Kind and At are else empty.
var fieldsOf = map[int]string{1: "A Type Value", 2: "A B", 3: "A B C Sep", 4: "A B C Sep", 5: "A Type", 6: "A"}

// namedOf are the fields of a checked step that the chapter names.
var namedOf = map[int]string{1: "A Val", 2: "A", 3: "A B C Sep", 4: "A B C Sep", 5: "A Conv", 6: "A"}

var plainNames = regexp.MustCompile(`^[A-Za-z_][A-Za-z_0-9]{0,63}$`)

func isPlainName(s string) bool {
	return plainNames.MatchString(s) && !slices.Contains(words, s)
}

func kindNumber(name string) int {
	return max(0, slices.Index(kinds, name))
}

// isPlainStep: whether a step as it is written has the fields of its kind, and no others.
func isPlainStep(s api.StepDecl) bool {
	used, ok := fieldsOf[s.Kind]
	for _, name := range []string{"A", "B", "C", "Sep", "Type"} {
		text := reflect.ValueOf(s).FieldByName(name).String()
		switch {
		case !slices.Contains(strings.Fields(used), name):
			ok = ok && text == ""
		case name != "Sep":
			ok = ok && isPlainName(text)
		}
	}
	if len(s.Value) > 0 {
		_, err := expr.Check(s.Value)
		ok = ok && s.Kind == 1 && err == 0
	}
	return ok
}

func isPlainTree(t api.Schema) bool {
	for _, e := range t.Events {
		if !isPlainName(e.Name) || len(e.Versions) == 0 {
			return false
		}
		for _, v := range e.Versions {
			for _, s := range v.Steps {
				if !isPlainStep(s) {
					return false
				}
			}
		}
	}
	return true
}

// plainType is a type in the midst of its steps: its columns by their tags, and the greatest tag that it ever used.
type plainType struct {
	cols []api.Column
	top  int
}

func (p *plainType) place(name string) int {
	return slices.IndexFunc(p.cols, func(c api.Column) bool { return c.Name == name })
}

func (p *plainType) has(name string) bool { return p.place(name) >= 0 }

// column is the one that has a name; of none the zero one.
func (p *plainType) column(name string) api.Column {
	if !p.has(name) {
		return api.Column{}
	}
	return p.cols[p.place(name)]
}

func (p *plainType) make(name string, kind int) int {
	p.top++
	p.cols = append(p.cols, api.Column{Name: name, Tag: p.top, Kind: kind})
	return p.top
}

// take takes a column out, and answers its tag; of none 0.
func (p *plainType) take(name string) int {
	tag := p.column(name).Tag
	p.cols = slices.DeleteFunc(p.cols, func(c api.Column) bool { return c.Name == name })
	return tag
}

// cond is a check that isn't met where bad holds.
type cond struct {
	bad bool
	err api.Errno
}

func told(conds ...cond) api.Errno {
	for _, c := range conds {
		if c.bad {
			return c.err
		}
	}
	return api.OK
}

// step does a step as it is written, and answers it by tags, or the place and the error.
func (p *plainType) step(first bool, s api.StepDecl) (api.Step, int, api.Errno) {
	a, b := p.column(s.A), p.column(s.B)
	var err api.Errno
	out := api.Step{Kind: s.Kind}
	switch s.Kind {
	case 1:
		k := kindNumber(s.Type)
		err = told(cond{p.has(s.A), 121}, cond{k == 0, 120}, cond{p.top+1 > 65535, 123}, cond{first && len(s.Value) > 0, 111}, cond{!first && len(s.Value) == 0, 111})
		if err == 0 && !first {
			v, place, err := expr.Value(s.Value, k)
			if err != 0 {
				return api.Step{}, s.Value[place].At, err
			}
			out.Val = v
		}
		if err == 0 {
			out.A = p.make(s.A, k)
		}
	case 2:
		err = told(cond{!p.has(s.A), 120}, cond{p.has(s.B), 121})
		if err == 0 {
			out.A = a.Tag
			p.cols[p.place(s.A)].Name = s.B
		}
	case 3:
		err = told(cond{!p.has(s.A), 120}, cond{a.Kind != 4, 110}, cond{s.Sep == "" || !utf8.ValidString(s.Sep), 111})
		if err == 0 {
			out.A, out.Sep = p.take(s.A), s.Sep
			err = told(cond{p.has(s.B) || p.has(s.C) || s.B == s.C, 121}, cond{p.top+2 > 65535, 123})
		}
		if err == 0 {
			out.B = p.make(s.B, 4)
			out.C = p.make(s.C, 4)
		}
	case 4:
		err = told(cond{!p.has(s.A), 120}, cond{!p.has(s.B), 120}, cond{s.A == s.B, 121}, cond{a.Kind != 4, 110}, cond{b.Kind != 4, 110}, cond{!utf8.ValidString(s.Sep), 111})
		if err == 0 {
			out.A, out.B, out.Sep = p.take(s.A), p.take(s.B), s.Sep
			err = told(cond{p.has(s.C), 121}, cond{p.top+1 > 65535, 123})
		}
		if err == 0 {
			out.C = p.make(s.C, 4)
		}
	case 5:
		k := kindNumber(s.Type)
		number := conversions[[2]int{a.Kind, k}]
		err = told(cond{!p.has(s.A), 120}, cond{k == 0, 120}, cond{number == 0, 124})
		if err == 0 {
			out.A, out.Conv = a.Tag, number
			p.cols[p.place(s.A)].Kind = k
		}
	default:
		err = told(cond{!p.has(s.A), 120})
		out.A = p.take(s.A)
	}
	if err != 0 {
		return api.Step{}, s.At, err
	}
	return out, 0, api.OK
}

func plainHistory(t api.Schema) (api.History, int, api.Errno) {
	if !isPlainTree(t) {
		return api.History{}, 0, api.ErrArg
	}
	var h api.History
	cells := 0
	for i, e := range t.Events {
		taken := slices.ContainsFunc(t.Events[:i], func(o api.EventDecl) bool { return o.Name == e.Name })
		if err := told(cond{i >= 1024, 123}, cond{taken, 121}); err != 0 {
			return api.History{}, e.At, err
		}
		typ, p, steps := api.Type{Name: e.Name}, plainType{}, 0
		for j, v := range e.Versions {
			if err := told(cond{j >= 65536, 123}, cond{v.Number != uint64(j+1), 122}); err != 0 {
				return api.History{}, v.At, err
			}
			var version api.Version
			for _, s := range v.Steps {
				if steps++; steps > 65536 {
					return api.History{}, s.At, 123
				}
				step, at, err := p.step(j == 0, s)
				if err != 0 {
					return api.History{}, at, err
				}
				version.Steps = append(version.Steps, step)
			}
			version.Columns = slices.Clone(p.cols)
			if cells += len(p.cols); cells > 1048576 {
				return api.History{}, v.At, 123
			}
			typ.Versions = append(typ.Versions, version)
		}
		h.Types = append(h.Types, typ)
	}
	return h, 0, api.OK
}

// Valid

func plainValid(h api.History) bool {
	cells := 0
	for i, t := range h.Types {
		steps := 0
		for _, v := range t.Versions {
			cells += len(v.Columns)
			steps += len(v.Steps)
		}
		taken := slices.ContainsFunc(h.Types[:i], func(o api.Type) bool { return o.Name == t.Name })
		if taken || !isPlainName(t.Name) || len(t.Versions) < 1 || len(t.Versions) > 65536 || steps > 65536 {
			return false
		}
		var ahead []api.Column
		top := 0
		for j, v := range t.Versions {
			if !isPlainVersion(j == 0, ahead, &top, v) {
				return false
			}
			ahead = v.Columns
		}
	}
	return len(h.Types) <= 1024 && cells <= 1048576
}

// isPlainVersion: whether a version follows on the columns ahead of it; top is the greatest tag so far, and is moved on.
func isPlainVersion(first bool, ahead []api.Column, top *int, v api.Version) bool {
	moments, ok := plainMoments(first, ahead, top, v.Steps)
	if !ok {
		return false
	}
	behind := moments[len(moments)-1]
	if !slices.EqualFunc(behind, v.Columns, func(tag int, c api.Column) bool { return c.Tag == tag && isPlainName(c.Name) }) {
		return false
	}
	for _, tag := range plainTags(ahead, v.Steps) {
		if len(plainKinds(first, tag, ahead, v)) == 0 {
			return false
		}
	}
	return arePlainNames(ahead, v, moments)
}

// plainTags are all tags that are there at some moment of a version.
func plainTags(ahead []api.Column, steps []api.Step) []int {
	var tags []int
	for _, c := range ahead {
		tags = append(tags, c.Tag)
	}
	for _, s := range steps {
		tags = append(tags, madeBy(s)...)
	}
	return tags
}

func madeBy(s api.Step) []int {
	return map[int][]int{1: {s.A}, 3: {s.B, s.C}, 4: {s.C}}[s.Kind]
}

func takenBy(s api.Step) []int {
	return map[int][]int{2: {s.A}, 3: {s.A}, 4: {s.A, s.B}, 5: {s.A}, 6: {s.A}}[s.Kind]
}

// plainMoments are the tags that are there ahead of each step, and behind all; and whether each step can be, but for
// kinds and names.
func plainMoments(first bool, ahead []api.Column, top *int, steps []api.Step) ([][]int, bool) {
	var now []int
	for _, c := range ahead {
		now = append(now, c.Tag)
	}
	moments := [][]int{slices.Clone(now)}
	for _, s := range steps {
		if !isPlainCheckedStep(first, s) || s.Kind == 4 && s.A == s.B {
			return nil, false
		}
		for _, tag := range takenBy(s) {
			if !slices.Contains(now, tag) {
				return nil, false
			}
		}
		if s.Kind == 3 || s.Kind == 4 || s.Kind == 6 {
			now = slices.DeleteFunc(now, func(tag int) bool { return slices.Contains(takenBy(s), tag) })
		}
		for _, tag := range madeBy(s) {
			if *top++; tag != *top || tag > 65535 {
				return nil, false
			}
			now = append(now, tag)
		}
		moments = append(moments, slices.Clone(now))
	}
	return moments, true
}

// isPlainCheckedStep: whether a step's fields can be, wherever it stands.
func isPlainCheckedStep(first bool, s api.Step) bool {
	named, ok := namedOf[s.Kind]
	v := reflect.ValueOf(s)
	for i := range v.NumField() {
		if name := v.Type().Field(i).Name; name != "Kind" && !slices.Contains(strings.Fields(named), name) {
			ok = ok && v.Field(i).IsZero()
		}
	}
	switch s.Kind {
	case 1:
		ok = ok && (first && s.Val == api.Value{} || !first && isPlainDefault(s.Val))
	case 3:
		ok = ok && s.Sep != "" && utf8.ValidString(s.Sep)
	case 4:
		ok = ok && utf8.ValidString(s.Sep)
	case 5:
		ok = ok && s.Conv >= 1 && s.Conv <= 12
	}
	return ok
}

func isPlainDefault(v api.Value) bool {
	switch v.Kind {
	case 1, 2:
		return v.S == ""
	case 3:
		return v.S == "" && (v.N == 0 || v.N == 1)
	case 4:
		return v.N == 0 && utf8.ValidString(v.S) && len(v.S) <= 4096
	case 5:
		return v.N == 0 && len(v.S) <= 2048
	}
	return false
}

// plainKinds are the kinds that a column can have had where the version begins or where it is made, by all steps that
// take it and by the columns behind.
func plainKinds(first bool, tag int, ahead []api.Column, v api.Version) []int {
	var out []int
	for begin := 1; begin <= 5; begin++ {
		now, ok := begin, true
		for _, c := range ahead {
			ok = ok && (c.Tag != tag || c.Kind == begin)
		}
		for _, s := range v.Steps {
			if slices.Contains(madeBy(s), tag) {
				ok = ok && (s.Kind == 1 && (first || begin == s.Val.Kind) || s.Kind != 1 && begin == 4)
			}
			if !slices.Contains(takenBy(s), tag) {
				continue
			}
			switch s.Kind {
			case 3, 4:
				ok = ok && now == 4
			case 5:
				from, to := plainEnds(s.Conv)
				ok = ok && now == from
				now = to
			}
		}
		for _, c := range v.Columns {
			ok = ok && (c.Tag != tag || c.Kind == now)
		}
		if ok {
			out = append(out, begin)
		}
	}
	return out
}

func plainEnds(number int) (int, int) {
	for ends, n := range conversions {
		if n == number {
			return ends[0], ends[1]
		}
	}
	return 0, 0
}

// renamesOf are the places of the steps that rename a column.
func renamesOf(tag int, steps []api.Step) []int {
	var out []int
	for i, s := range steps {
		if s.Kind == 2 && s.A == tag {
			out = append(out, i)
		}
	}
	return out
}

// plainNamesAt are the names that a column has at a moment by the two rules: none, one, or two.
func plainNamesAt(tag int, moment int, ahead []api.Column, v api.Version) []string {
	renames := renamesOf(tag, v.Steps)
	var out []string
	for _, c := range ahead {
		if c.Tag == tag && (len(renames) == 0 || moment <= renames[0]) {
			out = append(out, c.Name)
		}
	}
	for _, c := range v.Columns {
		if c.Tag == tag && (len(renames) == 0 || moment > renames[len(renames)-1]) {
			out = append(out, c.Name)
		}
	}
	return slices.Compact(out)
}

func arePlainNames(ahead []api.Column, v api.Version, moments [][]int) bool {
	for m, there := range moments {
		var seen []string
		for _, tag := range there {
			names := plainNamesAt(tag, m, ahead, v)
			if len(names) > 1 || len(names) == 1 && slices.Contains(seen, names[0]) {
				return false
			}
			seen = append(seen, names...)
		}
	}
	for i, s := range v.Steps {
		if s.Kind == 2 {
			was, is := plainNamesAt(s.A, i, ahead, v), plainNamesAt(s.A, i+1, ahead, v)
			if len(was) > 0 && slices.Equal(was, is) {
				return false
			}
		}
	}
	return true
}

// A tree of a history

// plainTree is a tree whose history is h, which is valid: names that could be any are new ones.
func plainTree(h api.History) api.Schema {
	var t api.Schema
	for _, typ := range h.Types {
		e := api.EventDecl{Name: typ.Name}
		var ahead []api.Column
		for j, v := range typ.Versions {
			e.Versions = append(e.Versions, plainDecl(j, ahead, v))
			ahead = v.Columns
		}
		t.Events = append(t.Events, e)
	}
	return t
}

func plainDecl(j int, ahead []api.Column, v api.Version) api.VersionDecl {
	name := func(tag int, m int) string {
		if names := plainNamesAt(tag, m, ahead, v); len(names) > 0 {
			return names[0]
		}
		for n := 0; ; n++ { // a name that no column has that is known
			s := fmt.Sprintf("free_%d_%d_%d", tag, m, n)
			if !slices.ContainsFunc(append(slices.Clone(ahead), v.Columns...), func(c api.Column) bool { return c.Name == s }) {
				return s
			}
		}
	}
	out := api.VersionDecl{Number: uint64(j + 1)}
	held := map[int]string{} // what the tree calls each column at the moment
	for _, c := range ahead {
		held[c.Tag] = c.Name
	}
	for i, s := range v.Steps {
		d := api.StepDecl{Kind: s.Kind, A: held[s.A], Sep: s.Sep}
		switch s.Kind {
		case 1:
			held[s.A] = name(s.A, i+1)
			d.A, d.Type = held[s.A], kinds[plainKinds(j == 0, s.A, ahead, v)[0]]
			if j > 0 {
				d.Value = plainNodes(s.Val)
			}
		case 2:
			held[s.A] = name(s.A, i+1)
			d.B = held[s.A]
		case 3:
			held[s.B], held[s.C] = name(s.B, i+1), name(s.C, i+1)
			d.B, d.C = held[s.B], held[s.C]
		case 4:
			held[s.C] = name(s.C, i+1)
			d.B, d.C = held[s.B], held[s.C]
		case 5:
			_, to := plainEnds(s.Conv)
			d.Type = kinds[to]
		}
		out.Steps = append(out.Steps, d)
	}
	return out
}

// plainNodes is an expression of a value.
func plainNodes(v api.Value) []api.Node {
	switch v.Kind {
	case 1:
		return nodes(num(v.N))
	case 2:
		if int64(v.N) < 0 {
			return nodes(num(-v.N), op(api.ExNeg))
		}
		return nodes(num(v.N))
	case 3:
		return nodes(op(api.ExFalse - int(v.N)))
	case 4:
		return nodes(text(v.S))
	}
	return nodes(text(fmt.Sprintf("%x", v.S)), op(api.ExHex))
}
