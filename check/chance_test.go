package check_test

import (
	"fmt"
	"reflect"
	"slices"
	"strconv"
	"strings"
	"testing"

	"stratum/api"
	"stratum/check"
)

// Trees and histories by chance, faults put into them, and what the tests look.

// lcg is a row of numbers that is the same in every run.
type lcg uint64

func (r *lcg) below(n int) int {
	*r = *r*6364136223846793005 + 1442695040888963407
	return int(uint64(*r) >> 33 % uint64(n))
}

func oneOf[T any](r *lcg, all ...T) T {
	return all[r.below(len(all))]
}

func (r *lcg) name() string {
	return oneOf(r, "a", "b", "c", "d", "x_1", "_", "Event", "uint", "text", times("n", 64), "Z9")
}

// noName is a text that can't stand as a name.
func (r *lcg) noName() string {
	return oneOf(r, append([]string{"", " ", "1a", "a b", "a-", "é", "a\x00", " a", "a\n", "\xff", times("n", 65)}, words...)...)
}

func (r *lcg) sep() string {
	return oneOf(r, ",", " ", "é", "\x00", "to", times("-", 5000), "", "\xff", ",\xc3")
}

func (r *lcg) int() int {
	return oneOf(r, -1<<63, -1, 0, 1, 2, 3, 4, 5, 6, 7, 8, 12, 13, 65535, 65536, 1<<63-1)
}

// value is an expression that mostly is one of the kind.
func (r *lcg) value(kind string) []api.Node {
	if r.below(10) == 0 {
		kind = oneOf(r, kinds[1:]...)
	}
	switch kind {
	case "uint":
		return oneOf(r, nodes(num(uint64(r.below(100)))), nodes(num(1<<64-1)), nodes(num(2), num(3), op(api.ExMul)), nodes(text("abc"), op(api.ExLen)))
	case "int":
		return oneOf(r, nodes(num(uint64(r.below(100))), op(api.ExNeg)), nodes(num(1<<63), op(api.ExNeg)), nodes(num(7), num(9), op(api.ExSub)))
	case "bool":
		return nodes(op(oneOf(r, api.ExTrue, api.ExFalse)))
	case "text":
		return oneOf(r, nodes(text("")), nodes(text("é")), nodes(text("a"), text("b"), cat(2)), nodes(text("ab"), num(2048), op(api.ExRep)), nodes(text("ab"), num(2049), op(api.ExRep)), nodes(text("\xff")))
	}
	return oneOf(r, nodes(text("00fF"), op(api.ExHex)), nodes(text(""), op(api.ExHex)), nodes(text("f"), op(api.ExHex)))
}

// step is one that mostly names columns that are there, and mostly isn't refused.
func (r *lcg) step(p *plainType, first bool) api.StepDecl {
	there := r.name()
	var texts []string
	for _, c := range p.cols {
		if c.Kind == 4 {
			texts = append(texts, c.Name)
		}
	}
	if len(p.cols) > 0 && r.below(12) > 0 {
		there = oneOf(r, p.cols...).Name
	}
	text, other := there, r.name()
	if len(texts) > 0 && r.below(8) > 0 {
		text, other = oneOf(r, texts...), oneOf(r, texts...)
	}
	s := api.StepDecl{Kind: oneOf(r, 1, 1, 1, 2, 3, 4, 5, 6), A: there}
	switch s.Kind {
	case api.StepAdd:
		s.A, s.Type = r.name(), oneOf(r, "uint", "int", "bool", "text", "text", "text", "bytes")
		if first == (r.below(20) == 0) {
			s.Value = r.value(s.Type)
		}
	case api.StepRename:
		s.B = r.name()
	case api.StepSplit:
		s.A, s.B, s.C, s.Sep = text, r.name(), r.name(), r.sep()
	case api.StepJoin:
		s.A, s.B, s.C, s.Sep = text, other, oneOf(r, r.name(), text, other), r.sep()
	case api.StepRetype:
		s.Type = oneOf(r, kinds[1:]...)
	}
	if r.below(60) == 0 {
		s.Type = map[bool]string{true: "num"}[s.Type != ""]
	}
	return s
}

// tree is one that History takes, but for so many of a hundred of its steps, versions and events.
func (r *lcg) tree(faults int) api.Schema {
	fault := func() bool { return r.below(100) < faults }
	var t api.Schema
	for i := range r.below(4) {
		e := api.EventDecl{Name: "e" + strconv.Itoa(i)}
		if fault() {
			e.Name = "e0"
		}
		var p plainType
		for j := range 1 + r.below(4) {
			v := api.VersionDecl{Number: uint64(j + 1)}
			if fault() {
				v.Number = oneOf(r, 0, 1, uint64(j), uint64(j+2), 1<<63, 1<<64-1)
			}
			for range r.below(7) {
				s := r.step(&p, j == 0)
				tried := plainType{slices.Clone(p.cols), p.top}
				if _, _, err := tried.step(j == 0, s); err == api.OK || fault() {
					p.step(j == 0, s)
					v.Steps = append(v.Steps, s)
				}
			}
			e.Versions = append(e.Versions, v)
		}
		t.Events = append(t.Events, e)
	}
	r.number(&t)
	return t
}

// number gives every event, version, step and node a place of its own.
func (r *lcg) number(t *api.Schema) {
	at := r.below(1000) - 500
	next := func() int {
		at += 1 + r.below(3)
		return at
	}
	for i := range t.Events {
		e := &t.Events[i]
		e.At = next()
		for j := range e.Versions {
			v := &e.Versions[j]
			v.At = next()
			for k := range v.Steps {
				v.Steps[k].At = next()
				v.Steps[k].Value = slices.Clone(v.Steps[k].Value)
				for n := range v.Steps[k].Value {
					v.Steps[k].Value[n].At = next()
				}
			}
		}
	}
}

// history is the one of a tree that History takes.
func (r *lcg) history(t *testing.T) api.History {
	t.Helper()
	for {
		h, _, err := check.History(r.tree(0))
		if err == api.OK && len(h.Types) > 0 {
			return h
		}
	}
}

// parts are all fields of a tree or a history, and of all that stands in it.
func parts(v reflect.Value) []reflect.Value {
	var out []reflect.Value
	switch v.Kind() {
	case reflect.Struct:
		for i := range v.NumField() {
			out = append(out, parts(v.Field(i))...)
		}
	case reflect.Slice:
		out = append(out, v)
		for i := range v.Len() {
			out = append(out, parts(v.Index(i))...)
		}
	default:
		out = append(out, v)
	}
	return out
}

// disturb puts something else into one field of a tree or a history, which may do or not.
func (r *lcg) disturb(what any) {
	all := parts(reflect.ValueOf(what).Elem())
	switch v := oneOf(r, all...); v.Kind() {
	case reflect.Int:
		v.SetInt(oneOf(r, int64(r.int()), v.Int()+1, v.Int()-1))
	case reflect.Uint64:
		v.SetUint(oneOf(r, uint64(r.int()), v.Uint()+1))
	case reflect.String:
		v.SetString(oneOf(r, r.name(), r.noName(), r.sep(), ""))
	case reflect.Slice:
		r.disturbList(v)
	}
}

// disturbList takes an item out of a list, puts one in twice, or lets two change places.
func (r *lcg) disturbList(v reflect.Value) {
	n := v.Len()
	if n == 0 {
		v.Set(reflect.MakeSlice(v.Type(), r.below(2), 3))
		return
	}
	l := reflect.AppendSlice(reflect.MakeSlice(v.Type(), 0, n+1), v)
	i, j := r.below(n), r.below(n)
	switch r.below(4) {
	case 0:
		l = reflect.AppendSlice(l.Slice(0, i), v.Slice(i+1, n))
	case 1:
		l = reflect.Append(l, v.Index(i))
	case 2:
		l.Index(i).Set(v.Index(j))
		l.Index(j).Set(v.Index(i))
	default:
		l = l.Slice(min(i, j), max(i, j))
	}
	v.Set(l)
}

func clonedTree(t api.Schema) api.Schema {
	t.Events = slices.Clone(t.Events)
	for i := range t.Events {
		e := &t.Events[i]
		e.Versions = slices.Clone(e.Versions)
		for j := range e.Versions {
			v := &e.Versions[j]
			v.Steps = slices.Clone(v.Steps)
			for k := range v.Steps {
				v.Steps[k].Value = slices.Clone(v.Steps[k].Value)
			}
		}
	}
	return t
}

func clonedHistory(h api.History) api.History {
	h.Types = slices.Clone(h.Types)
	for i := range h.Types {
		h.Types[i].Versions = slices.Clone(h.Types[i].Versions)
		for j := range h.Types[i].Versions {
			v := &h.Types[i].Versions[j]
			v.Steps, v.Columns = slices.Clone(v.Steps), slices.Clone(v.Columns)
		}
	}
	return h
}

func sameVersion(a api.Version, b api.Version) bool {
	return slices.Equal(a.Steps, b.Steps) && slices.Equal(a.Columns, b.Columns)
}

func sameType(a api.Type, b api.Type) bool {
	return a.Name == b.Name && slices.EqualFunc(a.Versions, b.Versions, sameVersion)
}

// same: whether two histories are, a list of nothing being nil or empty.
func same(a api.History, b api.History) bool {
	return slices.EqualFunc(a.Types, b.Types, sameType)
}

func show(s string) string {
	if len(s) > 600 {
		return strconv.QuoteToASCII(s[:600]) + ".. (" + strconv.Itoa(len(s)) + " bytes)"
	}
	return strconv.QuoteToASCII(s)
}

// shown is for tests that fail: what was handed in, shortened.
func shown(what any) string { return show(fmt.Sprintf("%+v", what)) }

func times(s string, n int) string { return strings.Repeat(s, n) }

// wantHistory looks that History answers this history, and that it is valid.
func wantHistory(t *testing.T, s api.Schema, want api.History) {
	t.Helper()
	got, at, err := check.History(s)
	if err != api.OK || at != 0 || !same(got, want) {
		t.Errorf("%d, %d, %s, not %s, of %s", at, err, shown(got), shown(want), shown(s))
	}
	if !check.Valid(got) {
		t.Errorf("%s isn't valid, of %s", shown(got), shown(s))
	}
}

func wantFault(t *testing.T, s api.Schema, at int, err api.Errno) {
	t.Helper()
	got, gotAt, gotErr := check.History(s)
	if len(got.Types) > 0 || gotAt != at || gotErr != err {
		t.Errorf("%d, %d, %s, not %d, %d, of %s", gotAt, gotErr, shown(got), at, err, shown(s))
	}
}

// wantPlain looks that History answers what the plain one does.
func wantPlain(t *testing.T, s api.Schema) api.Errno {
	t.Helper()
	h, at, err := plainHistory(s)
	if err != api.OK {
		wantFault(t, s, at, err)
	} else {
		wantHistory(t, s, h)
	}
	return err
}

func wantText(t *testing.T, s string, want api.History) {
	t.Helper()
	got, at, err := check.Text(s)
	if err != api.OK || at != 0 || !same(got, want) || !check.Valid(got) {
		t.Errorf("Text(%s): %s, %d, %d, not %s", show(s), shown(got), at, err, shown(want))
	}
}

func wantTextFault(t *testing.T, s string, at int, err api.Errno) {
	t.Helper()
	got, gotAt, gotErr := check.Text(s)
	if len(got.Types) > 0 || gotAt != at || gotErr != err {
		t.Errorf("Text(%s): %s, %d, %d, not %d, %d", show(s), shown(got), gotAt, gotErr, at, err)
	}
}

// wantValid looks that Valid tells this, and of a valid one that History answers it of a tree.
func wantValid(t *testing.T, h api.History, want bool) {
	t.Helper()
	if got := check.Valid(h); got != want {
		t.Errorf("Valid(%s): %v, not %v", shown(h), got, want)
	}
	if plain := plainValid(h); plain != want {
		t.Fatalf("the plain Valid(%s): %v, not %v", shown(h), plain, want)
	}
	if want {
		wantHistory(t, plainTree(h), h)
	}
}

// wantPlainValid looks that Valid tells what the plain one does.
func wantPlainValid(t *testing.T, h api.History) bool {
	t.Helper()
	want := plainValid(h)
	wantValid(t, h, want)
	return want
}

// The parts of what is handed in.

func nodes(all ...api.Node) []api.Node { return all }
func num(n uint64) api.Node            { return api.Node{Op: api.ExNumber, Num: n} }
func text(s string) api.Node           { return api.Node{Op: api.ExText, Text: s} }
func cat(n int) api.Node               { return api.Node{Op: api.ExCat, N: n} }
func op(n int) api.Node                { return api.Node{Op: n} }

func add(name string, kind string, value ...api.Node) api.StepDecl {
	return api.StepDecl{Kind: api.StepAdd, A: name, Type: kind, Value: value}
}

func rename(a string, b string) api.StepDecl {
	return api.StepDecl{Kind: api.StepRename, A: a, B: b}
}

func split(a string, sep string, b string, c string) api.StepDecl {
	return api.StepDecl{Kind: api.StepSplit, A: a, B: b, C: c, Sep: sep}
}

func join(a string, b string, sep string, c string) api.StepDecl {
	return api.StepDecl{Kind: api.StepJoin, A: a, B: b, C: c, Sep: sep}
}

func retype(a string, kind string) api.StepDecl {
	return api.StepDecl{Kind: api.StepRetype, A: a, Type: kind}
}

func drop(a string) api.StepDecl {
	return api.StepDecl{Kind: api.StepDrop, A: a}
}

func version(number uint64, steps ...api.StepDecl) api.VersionDecl {
	return api.VersionDecl{Number: number, Steps: steps}
}

func event(name string, versions ...api.VersionDecl) api.EventDecl {
	return api.EventDecl{Name: name, Versions: versions}
}

func events(all ...api.EventDecl) api.Schema { return api.Schema{Events: all} }

// tree has one event, whose versions have these steps.
func tree(versions ...[]api.StepDecl) api.Schema {
	e := event("e")
	for i, steps := range versions {
		e.Versions = append(e.Versions, version(uint64(i+1), steps...))
	}
	return events(e)
}

func steps(all ...api.StepDecl) []api.StepDecl { return all }

// done are checked steps, cols columns, and typed a history of one type.
func done(all ...api.Step) []api.Step     { return all }
func cols(all ...api.Column) []api.Column { return all }
func typed(versions ...api.Version) api.History {
	return types(api.Type{Name: "e", Versions: versions})
}
func types(all ...api.Type) api.History            { return api.History{Types: all} }
func col(name string, tag int, k int) api.Column   { return api.Column{Name: name, Tag: tag, Kind: k} }
func ver(s []api.Step, c []api.Column) api.Version { return api.Version{Steps: s, Columns: c} }

func uintOf(n uint64) api.Value   { return api.Value{Kind: 1, N: n} }
func intOf(n int64) api.Value     { return api.Value{Kind: 2, N: uint64(n)} }
func boolOf(n uint64) api.Value   { return api.Value{Kind: 3, N: n} }
func textOf(s string) api.Value   { return api.Value{Kind: 4, S: s} }
func bytesOf(s string) api.Value  { return api.Value{Kind: 5, S: s} }
func added(tag int) api.Step      { return api.Step{Kind: api.StepAdd, A: tag} }
func renamed(tag int) api.Step    { return api.Step{Kind: api.StepRename, A: tag} }
func dropped(tag int) api.Step    { return api.Step{Kind: api.StepDrop, A: tag} }
func retyped(tag, n int) api.Step { return api.Step{Kind: api.StepRetype, A: tag, Conv: n} }

func addedAs(tag int, v api.Value) api.Step { return api.Step{Kind: api.StepAdd, A: tag, Val: v} }

func splitAt(a int, sep string, b int, c int) api.Step {
	return api.Step{Kind: api.StepSplit, A: a, B: b, C: c, Sep: sep}
}

func joined(a int, b int, sep string, c int) api.Step {
	return api.Step{Kind: api.StepJoin, A: a, B: b, C: c, Sep: sep}
}
