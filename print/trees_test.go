package print_test

import (
	"fmt"
	"reflect"
	"slices"
	"strconv"
	"strings"
	"testing"

	"stratum/api"
	"stratum/parse"
	"stratum/print"
)

// Trees and expressions by chance, faults put into them, and what the tests look.

// lcg is a row of numbers that is the same in every run.
type lcg uint64

func (r *lcg) below(n int) int {
	*r = *r*6364136223846793005 + 1442695040888963407
	return int(uint64(*r) >> 33 % uint64(n))
}

func oneOf[T any](r *lcg, all ...T) T {
	return all[r.below(len(all))]
}

func (r *lcg) name() string {
	return oneOf(r, "a", "b", "x_1", "_", "Event", "versions", "ad", "uint", "text", "trueish", times("n", 64), "Z9")
}

// noName is a text that can't stand as a name.
func (r *lcg) noName() string {
	return oneOf(r, append([]string{"", " ", "1a", "a b", "a-", "é", "a\x00", " a", "a\n", "\"a\"", "\xff", times("n", 65), times("n", 300)}, words...)...)
}

func (r *lcg) text() string {
	return oneOf(r, "", "a", ",", " ", "\n", "\t\r", "\"", "\\", "\xff\x00", "event", "{\n", "é", times("t", 100))
}

func (r *lcg) number() uint64 {
	return oneOf(r, 0, 1, 2, 7, 10, 1<<63, 1<<64-1, uint64(r.below(1000)))
}

func (r *lcg) int() int {
	return oneOf(r, -1<<63, -2, -1, 0, 1, 2, 3, 7, 9, 13, 100, 1<<63-1)
}

// nodes is an expression of at most this depth.
func (r *lcg) nodes(deep int) []api.Node {
	n := api.Node{Op: 1 + r.below(12), At: r.int()}
	if deep == 1 {
		n.Op = 1 + r.below(4)
	}
	kids := plainOps[n.Op].kids
	switch n.Op {
	case api.ExNumber:
		n.Num = r.number()
	case api.ExText:
		n.Text = r.text()
	case api.ExCat:
		n.N = 1 + r.below(4)
		kids = n.N
	}
	var out []api.Node
	for range kids {
		out = append(out, r.nodes(deep-1)...)
	}
	return append(out, n)
}

func (r *lcg) step() api.StepDecl {
	s := api.StepDecl{Kind: 1 + r.below(6), At: r.int()}
	for _, name := range strings.Fields(plainSteps[s.Kind].names) {
		text := r.name()
		if name == "Sep" {
			text = r.text()
		}
		reflect.ValueOf(&s).Elem().FieldByName(name).SetString(text)
	}
	if s.Kind == api.StepAdd && r.below(2) == 0 {
		s.Value = r.nodes(1 + r.below(5))
	}
	return s
}

func (r *lcg) tree() api.Schema {
	t := api.Schema{Events: make([]api.EventDecl, r.below(4))}
	for i := range t.Events {
		t.Events[i] = api.EventDecl{Name: r.name(), At: r.int(), Versions: make([]api.VersionDecl, 1+r.below(3))}
		for j := range t.Events[i].Versions {
			v := api.VersionDecl{Number: r.number(), At: r.int()}
			for range r.below(5) {
				v.Steps = append(v.Steps, r.step())
			}
			t.Events[i].Versions[j] = v
		}
	}
	return t
}

// parts are all fields of a tree, and of all that stands in it.
func parts(v reflect.Value) []reflect.Value {
	var out []reflect.Value
	switch v.Kind() {
	case reflect.Struct:
		for i := range v.NumField() {
			out = append(out, parts(v.Field(i))...)
		}
	case reflect.Slice:
		out = append(out, v)
		for i := range v.Len() {
			out = append(out, parts(v.Index(i))...)
		}
	default:
		out = append(out, v)
	}
	return out
}

// disturb puts something else into one field of a tree or of nodes, which may do or not.
func (r *lcg) disturb(what any) {
	all := parts(reflect.ValueOf(what).Elem())
	if len(all) == 0 {
		return
	}
	switch v := all[r.below(len(all))]; v.Kind() {
	case reflect.Int:
		v.SetInt(int64(r.int()))
	case reflect.Uint64:
		v.SetUint(r.number())
	case reflect.String:
		v.SetString(oneOf(r, r.name(), r.noName(), r.text(), ""))
	case reflect.Slice:
		if v.Len() == 0 {
			v.Set(reflect.MakeSlice(v.Type(), r.below(3), 5))
			return
		}
		from, to := r.below(v.Len()), r.below(v.Len()+1)
		v.Set(v.Slice(min(from, to), max(from, to)))
	}
}

func clonedTree(t api.Schema) api.Schema {
	t.Events = slices.Clone(t.Events)
	for i := range t.Events {
		e := &t.Events[i]
		e.Versions = slices.Clone(e.Versions)
		for j := range e.Versions {
			v := &e.Versions[j]
			v.Steps = slices.Clone(v.Steps)
			for k := range v.Steps {
				v.Steps[k].Value = slices.Clone(v.Steps[k].Value)
			}
		}
	}
	return t
}

// placeless is the nodes with 0 for their places.
func placeless(nodes []api.Node) []api.Node {
	var out []api.Node
	for _, n := range nodes {
		n.At = 0
		out = append(out, n)
	}
	return out
}

// placelessTree is the tree with 0 for its places, and nil for each list of nothing.
func placelessTree(t api.Schema) api.Schema {
	var out api.Schema
	for _, e := range t.Events {
		event := api.EventDecl{Name: e.Name}
		for _, v := range e.Versions {
			version := api.VersionDecl{Number: v.Number}
			for _, s := range v.Steps {
				s.At, s.Value = 0, placeless(s.Value)
				version.Steps = append(version.Steps, s)
			}
			event.Versions = append(event.Versions, version)
		}
		out.Events = append(out.Events, event)
	}
	return out
}

func sameTree(a api.Schema, b api.Schema) bool {
	return reflect.DeepEqual(placelessTree(a), placelessTree(b))
}

func sameNodes(a []api.Node, b []api.Node) bool {
	return slices.Equal(placeless(a), placeless(b))
}

func show(s string) string {
	if len(s) > 200 {
		return strconv.QuoteToASCII(s[:200]) + ".. (" + strconv.Itoa(len(s)) + " bytes)"
	}
	return strconv.QuoteToASCII(s)
}

// wantValue looks that Value answers this text, which reads back to the nodes.
func wantValue(t *testing.T, nodes []api.Node, want string) {
	t.Helper()
	got, err := print.Value(nodes)
	if got != want || err != api.OK {
		t.Errorf("Value(%s): %s, %d, not %s", shown(nodes), show(got), err, show(want))
	}
	back, place, err := parse.Value(got)
	if err != api.OK || !sameNodes(back, nodes) {
		t.Errorf("Value(%s): %s reads back to %s, %d at %d", shown(nodes), show(got), shown(back), err, place)
	}
}

// wantValueFault looks that Value answers this error and no text; and Schema the same of a tree with the nodes in it,
// where the document has the same there: of no nodes at all no default is written.
func wantValueFault(t *testing.T, nodes []api.Node, want api.Errno) {
	t.Helper()
	if got, err := print.Value(nodes); got != "" || err != want {
		t.Errorf("Value(%s): %s, %d, not %d", shown(nodes), show(got), err, want)
	}
	if len(nodes) > 0 {
		wantSchemaFault(t, tree(step("drop", "x"), add("x", "uint", nodes...), step("drop", "x")), want)
	}
}

func wantPlainValue(t *testing.T, nodes []api.Node) {
	t.Helper()
	want, err := plainValue(nodes)
	if err != api.OK {
		wantValueFault(t, nodes, err)
		return
	}
	wantValue(t, nodes, want)
}

// wantSchema looks that Schema answers this text, which reads back to the tree.
func wantSchema(t *testing.T, tree api.Schema, want string) {
	t.Helper()
	got, err := print.Schema(tree)
	if got != want || err != api.OK {
		t.Errorf("Schema(%s): %s, %d, not %s", shown(tree), show(got), err, show(want))
	}
	back, place, err := parse.Schema(got)
	if err != api.OK || !sameTree(back, tree) {
		t.Errorf("Schema(%s): %s reads back to %s, %d at %d", shown(tree), show(got), shown(back), err, place)
	}
}

func wantSchemaFault(t *testing.T, tree api.Schema, want api.Errno) {
	t.Helper()
	if got, err := print.Schema(tree); got != "" || err != want {
		t.Errorf("Schema(%s): %s, %d, not %d", shown(tree), show(got), err, want)
	}
}

func wantPlainSchema(t *testing.T, tree api.Schema) {
	t.Helper()
	want, err := plainSchema(tree)
	if err != api.OK {
		wantSchemaFault(t, tree, err)
		return
	}
	wantSchema(t, tree, want)
}

// shown is for tests that fail: what was handed in, shortened.
func shown(what any) string { return show(fmt.Sprintf("%+v", what)) }

func times(s string, n int) string { return strings.Repeat(s, n) }
