package parse_test

import (
	"reflect"
	"slices"
	"strconv"
	"strings"
	"testing"
	"unsafe"

	"stratum/api"
	"stratum/lex"
	"stratum/parse"
)

// A writer, which makes a text and its tree together, and what the tests look.

// lcg is a row of numbers that is the same in every run.
type lcg uint64

func (r *lcg) below(n int) int {
	*r = *r*6364136223846793005 + 1442695040888963407
	return int(uint64(*r) >> 33 % uint64(n))
}

func (r *lcg) oneOf(texts []string) string {
	return texts[r.below(len(texts))]
}

func show(s string) string {
	if len(s) > 100 {
		return strconv.QuoteToASCII(s[:100]) + ".. (" + strconv.Itoa(len(s)) + " bytes)"
	}
	return strconv.QuoteToASCII(s)
}

// writer writes token by token, with stuff between, and brackets where extra asks for them.
type writer struct {
	out   strings.Builder
	stuff func() string
	extra func() int
}

// tight is a writer without anything that isn't needed.
func tight() *writer {
	return &writer{stuff: func() string { return "" }, extra: func() int { return 0 }}
}

// loose is a writer with blanks, remarks and brackets by chance.
func loose(r *lcg) *writer {
	stuffs := []string{"", "", "", " ", "\n", "\t", "\r\n", "# a \" ? remark\n", " #\n ", "\n\n# event a { version 1 {\n"}
	return &writer{stuff: func() string { return r.oneOf(stuffs) }, extra: func() int { return max(0, r.below(6)-3) }}
}

func isWordByte(c byte) bool {
	return c == '_' || '0' <= c && c <= '9' || 'a' <= c && c <= 'z' || 'A' <= c && c <= 'Z'
}

// put writes a token, and answers its place.
func (w *writer) put(token string) int {
	w.out.WriteString(w.stuff())
	if s := w.out.String(); s != "" && isWordByte(s[len(s)-1]) && isWordByte(token[0]) {
		w.out.WriteString(" ")
	}
	w.out.WriteString(token)
	return w.out.Len() - len(token)
}

// all writes tokens, and answers the place of the first one.
func (w *writer) all(tokens ...string) int {
	first := w.put(tokens[0])
	for _, t := range tokens[1:] {
		w.put(t)
	}
	return first
}

// ex is an expression.
type ex struct {
	op   int
	num  uint64
	text string
	kids []ex
}

// How tightly an expression must hold together at its place.
const (
	asExpr = iota
	asTerm
	asFactor
)

func (e ex) holds() int {
	switch e.op {
	case api.ExAdd, api.ExSub:
		return asExpr
	case api.ExMul:
		return asTerm
	}
	return asFactor
}

// expr writes e, with brackets where its place needs them, and answers its nodes.
func (w *writer) expr(e ex, place int) []api.Node {
	brackets := w.extra()
	if e.holds() < place {
		brackets = max(1, brackets)
	}
	for range brackets {
		w.put("(")
	}
	n := api.Node{Op: e.op, Num: e.num, Text: e.text}
	var nodes []api.Node
	switch e.op {
	case api.ExNumber:
		n.At = w.put(strconv.FormatUint(e.num, 10))
	case api.ExText:
		n.At = w.put(lex.Quote(e.text))
	case api.ExTrue:
		n.At = w.put("true")
	case api.ExFalse:
		n.At = w.put("false")
	case api.ExNeg:
		n.At = w.put("-")
		nodes = w.expr(e.kids[0], asFactor)
	case api.ExAdd, api.ExSub, api.ExMul:
		nodes = w.expr(e.kids[0], e.holds())
		n.At = w.put([]string{"+", "-", "*"}[e.op-api.ExAdd])
		nodes = append(nodes, w.expr(e.kids[1], e.holds()+1)...)
	default:
		n.At = w.all([]string{"cat", "rep", "len", "hex"}[e.op-api.ExCat], "(")
		if e.op == api.ExCat {
			n.N = len(e.kids)
		}
		for i, k := range e.kids {
			if i > 0 {
				w.put(",")
			}
			nodes = append(nodes, w.expr(k, asExpr)...)
		}
		w.put(")")
	}
	for range brackets {
		w.put(")")
	}
	return append(nodes, n)
}

// schema writes a tree whose steps' expressions are values, and puts the places into it.
func (w *writer) schema(t api.Schema, values map[*api.StepDecl]ex) {
	for i := range t.Events {
		e := &t.Events[i]
		e.At = w.all("event", e.Name, "{")
		for j := range e.Versions {
			v := &e.Versions[j]
			v.At = w.all("version", strconv.FormatUint(v.Number, 10), "{")
			for k := range v.Steps {
				w.step(&v.Steps[k], values)
			}
			w.put("}")
		}
		w.put("}")
	}
	w.out.WriteString(w.stuff())
}

func (w *writer) step(s *api.StepDecl, values map[*api.StepDecl]ex) {
	switch s.Kind {
	case api.StepAdd:
		s.At = w.all("add", s.A, ":", s.Type)
		if e, ok := values[s]; ok {
			w.put("=")
			s.Value = w.expr(e, asExpr)
		}
	case api.StepRename:
		s.At = w.all("rename", s.A, "to", s.B)
	case api.StepSplit:
		s.At = w.all("split", s.A, "at", lex.Quote(s.Sep), "into", s.B, ",", s.C)
	case api.StepJoin:
		s.At = w.all("join", s.A, ",", s.B, "with", lex.Quote(s.Sep), "into", s.C)
	case api.StepRetype:
		s.At = w.all("retype", s.A, "to", s.Type)
	case api.StepDrop:
		s.At = w.all("drop", s.A)
	}
	w.put(";")
}

// anyName is a name, now and then a long one or one that is nearly a word.
func (r *lcg) anyName() string {
	return r.oneOf([]string{"a", "b", "x_1", "_", "Event", "versions", "ad", "uint", "text", "e", "cats", "trueish", strings.Repeat("n", 64), "Z9"})
}

func (r *lcg) anyText() string {
	return r.oneOf([]string{"", "a", ",", " ", "\n", "\"", "\\", "\xff\x00", "event", "{", strings.Repeat("t", 100)})
}

func (r *lcg) anyNumber() uint64 {
	return []uint64{0, 1, 2, 7, 1 << 63, 1<<64 - 1, uint64(r.below(1000))}[r.below(7)]
}

// anyExpression is one of at most so many nodes from the root down.
func (r *lcg) anyExpression(deep int) ex {
	e := ex{op: 1 + r.below(12)}
	if deep == 1 {
		e.op = 1 + r.below(4)
	}
	kids := 0
	switch e.op {
	case api.ExNumber:
		e.num = r.anyNumber()
	case api.ExText:
		e.text = r.anyText()
	case api.ExNeg, api.ExLen, api.ExHex:
		kids = 1
	case api.ExAdd, api.ExSub, api.ExMul, api.ExRep:
		kids = 2
	case api.ExCat:
		kids = 1 + r.below(4)
	}
	for range kids {
		e.kids = append(e.kids, r.anyExpression(deep-1))
	}
	return e
}

// anySchema is a tree without places, and its steps' expressions.
func (r *lcg) anySchema() (api.Schema, map[*api.StepDecl]ex) {
	var t api.Schema
	values := map[*api.StepDecl]ex{}
	for range r.below(4) {
		e := api.EventDecl{Name: r.anyName()}
		for range 1 + r.below(3) {
			v := api.VersionDecl{Number: r.anyNumber(), Steps: make([]api.StepDecl, r.below(5))}
			for k := range v.Steps {
				v.Steps[k] = r.anyStep()
				if v.Steps[k].Kind == api.StepAdd && r.below(2) == 0 {
					values[&v.Steps[k]] = r.anyExpression(1 + r.below(5))
				}
			}
			e.Versions = append(e.Versions, v)
		}
		t.Events = append(t.Events, e)
	}
	return t, values
}

func (r *lcg) anyStep() api.StepDecl {
	s := api.StepDecl{Kind: 1 + r.below(6), A: r.anyName()}
	switch s.Kind {
	case api.StepAdd, api.StepRetype:
		s.Type = r.anyName()
	case api.StepRename:
		s.B = r.anyName()
	case api.StepSplit, api.StepJoin:
		s.B, s.C, s.Sep = r.anyName(), r.anyName(), r.anyText()
	}
	return s
}

func sameStep(a api.StepDecl, b api.StepDecl) bool {
	same := slices.Equal(a.Value, b.Value)
	a.Value, b.Value = nil, nil
	return same && reflect.DeepEqual(a, b)
}

func sameVersion(a api.VersionDecl, b api.VersionDecl) bool {
	return a.Number == b.Number && a.At == b.At && slices.EqualFunc(a.Steps, b.Steps, sameStep)
}

func sameEvent(a api.EventDecl, b api.EventDecl) bool {
	return a.Name == b.Name && a.At == b.At && slices.EqualFunc(a.Versions, b.Versions, sameVersion)
}

func sameSchema(a api.Schema, b api.Schema) bool {
	return slices.EqualFunc(a.Events, b.Events, sameEvent)
}

// movedNodes is the nodes with other places.
func movedNodes(nodes []api.Node, move func(int) int) []api.Node {
	var out []api.Node
	for _, n := range nodes {
		n.At = move(n.At)
		out = append(out, n)
	}
	return out
}

// moved is the tree with other places.
func moved(t api.Schema, move func(int) int) api.Schema {
	var out api.Schema
	for _, e := range t.Events {
		e.At = move(e.At)
		e.Versions = slices.Clone(e.Versions)
		for i := range e.Versions {
			v := &e.Versions[i]
			v.At = move(v.At)
			v.Steps = slices.Clone(v.Steps)
			for j := range v.Steps {
				s := &v.Steps[j]
				s.At = move(s.At)
				s.Value = movedNodes(s.Value, move)
			}
		}
		out.Events = append(out.Events, e)
	}
	return out
}

func nowhere(int) int { return 0 }

// wantSchema looks that Schema answers this tree.
func wantSchema(t *testing.T, s string, want ...api.EventDecl) {
	t.Helper()
	got, place, err := parse.Schema(s)
	if err != api.OK || place != 0 || !sameSchema(got, api.Schema{Events: want}) {
		t.Errorf("Schema(%s): %+v, %d, %d, not %+v", show(s), got, place, err, want)
	}
	wantTree(t, s, got)
}

// wantSchemaFault looks that Schema answers this fault at this place, and no tree.
func wantSchemaFault(t *testing.T, s string, place int, err api.Errno) {
	t.Helper()
	got, gotPlace, gotErr := parse.Schema(s)
	if len(got.Events) != 0 || gotPlace != place || gotErr != err {
		t.Errorf("Schema(%s): %d events, %d at %d, not %d at %d", show(s), len(got.Events), gotErr, gotPlace, err, place)
	}
}

// wantValue looks that Value answers these nodes.
func wantValue(t *testing.T, s string, want ...api.Node) {
	t.Helper()
	got, place, err := parse.Value(s)
	if err != api.OK || place != 0 || !slices.Equal(got, want) {
		t.Errorf("Value(%s): %+v, %d, %d, not %+v", show(s), got, place, err, want)
	}
	if !isExpression(got) {
		t.Errorf("Value(%s): no expression", show(s))
	}
}

// wantValueFault looks that Value answers this fault at this place, and no nodes; and that Schema answers the same, so
// much further on, of a schema with s in it (where s doesn't end the step, and isn't too long).
func wantValueFault(t *testing.T, s string, place int, err api.Errno) {
	t.Helper()
	got, gotPlace, gotErr := parse.Value(s)
	if len(got) != 0 || gotPlace != place || gotErr != err {
		t.Errorf("Value(%s): %d nodes, %d at %d, not %d at %d", show(s), len(got), gotErr, gotPlace, err, place)
	}
	const ahead = "event a{version 2{add x:uint="
	if len(ahead)+len(s) <= api.MaxText && !strings.HasPrefix(s[place:], ";") {
		wantSchemaFault(t, ahead+s, len(ahead)+place, err)
	}
}

// wantPlainSchema looks that Schema answers as the plain one.
func wantPlainSchema(t *testing.T, s string) {
	t.Helper()
	want, place, err := plainSchema(s)
	if err != api.OK {
		wantSchemaFault(t, s, place, err)
		return
	}
	wantSchema(t, s, want.Events...)
}

// wantPlainValue looks that Value answers as the plain one.
func wantPlainValue(t *testing.T, s string) {
	t.Helper()
	want, place, err := plainValue(s)
	if err != api.OK {
		wantValueFault(t, s, place, err)
		return
	}
	wantValue(t, s, want...)
}

// kidsOf is how many kids a node has; -1: it is none.
func kidsOf(n api.Node) int {
	plain := api.Node{Op: n.Op, At: n.At}
	switch n.Op {
	case api.ExNumber:
		plain.Num = n.Num
	case api.ExText:
		plain.Text = n.Text
	case api.ExCat:
		plain.N = n.N
	}
	if n != plain || n.Op == api.ExCat && n.N < 1 {
		return -1
	}
	switch n.Op {
	case api.ExNumber, api.ExText, api.ExTrue, api.ExFalse:
		return 0
	case api.ExNeg, api.ExLen, api.ExHex:
		return 1
	case api.ExAdd, api.ExSub, api.ExMul, api.ExRep:
		return 2
	case api.ExCat:
		return n.N
	}
	return -1
}

// isExpression: whether the nodes are one, as chapter 11 says.
func isExpression(nodes []api.Node) bool {
	var deep []int
	for _, n := range nodes {
		kids := kidsOf(n)
		if kids < 0 || kids > len(deep) {
			return false
		}
		own := 1 + slices.Max(append(slices.Clone(deep[len(deep)-kids:]), 0))
		if own > 100 {
			return false
		}
		deep = append(deep[:len(deep)-kids], own)
	}
	return len(deep) == 1
}

// isName: whether s may stand as a name in a tree.
func isName(s string) bool {
	return lex.Name(s) && !slices.Contains(words, s)
}

// wantTree looks that t is a tree.
func wantTree(t *testing.T, s string, tree api.Schema) {
	t.Helper()
	for _, e := range tree.Events {
		if !isName(e.Name) || len(e.Versions) == 0 {
			t.Errorf("Schema(%s): no event: %+v", show(s), e)
		}
		for _, v := range e.Versions {
			for _, d := range v.Steps {
				if !isStep(d) {
					t.Errorf("Schema(%s): no step: %+v", show(s), d)
				}
			}
		}
	}
}

// isStep: whether s uses the fields that its Kind has, and no others.
func isStep(s api.StepDecl) bool {
	names := map[int][]string{1: {s.A, s.Type}, 2: {s.A, s.B}, 3: {s.A, s.B, s.C}, 4: {s.A, s.B, s.C}, 5: {s.A, s.Type}, 6: {s.A}}[s.Kind]
	for _, n := range names {
		if !isName(n) {
			return false
		}
	}
	others := s.Sep
	switch s.Kind {
	case 1, 5:
		others += s.B + s.C
	case 2:
		others += s.C + s.Type
	case 3, 4:
		others = s.Type
	case 6:
		others += s.B + s.C + s.Type
	}
	return names != nil && others == "" && (len(s.Value) == 0 || s.Kind == 1 && isExpression(s.Value))
}

// span is where a list's memory lies, its spare room too.
type span struct{ from, to uintptr }

func spanOf[T any](l []T) span {
	var one T
	from := uintptr(unsafe.Pointer(unsafe.SliceData(l)))
	return span{from, from + uintptr(cap(l))*unsafe.Sizeof(one)}
}

// spansOf is where all lists of a tree lie.
func spansOf(t api.Schema) []span {
	out := []span{spanOf(t.Events)}
	for _, e := range t.Events {
		out = append(out, spanOf(e.Versions))
		for _, v := range e.Versions {
			out = append(out, spanOf(v.Steps))
			for _, s := range v.Steps {
				out = append(out, spanOf(s.Value))
			}
		}
	}
	return out
}

// textsOf is all texts of a tree.
func textsOf(t api.Schema) []string {
	var out []string
	for _, e := range t.Events {
		out = append(out, e.Name)
		for _, v := range e.Versions {
			for _, s := range v.Steps {
				out = append(out, s.A, s.B, s.C, s.Sep, s.Type)
				for _, n := range s.Value {
					out = append(out, n.Text)
				}
			}
		}
	}
	return out
}

// apart: whether no two of these have memory in common.
func apart(spans []span) bool {
	slices.SortFunc(spans, func(a span, b span) int { return int(int64(a.from) - int64(b.from)) })
	end := uintptr(0)
	for _, s := range spans {
		if s.from == s.to {
			continue
		}
		if s.from < end {
			return false
		}
		end = s.to
	}
	return true
}

// share: whether two texts have bytes in common.
func share(a string, b string) bool {
	if a == "" || b == "" {
		return false
	}
	first, second := uintptr(unsafe.Pointer(unsafe.StringData(a))), uintptr(unsafe.Pointer(unsafe.StringData(b)))
	return first < second+uintptr(len(b)) && second < first+uintptr(len(a))
}
