package print_test

import (
	"math"
	"reflect"
	"slices"
	"strings"
	"sync"
	"testing"
	"unsafe"

	"stratum/api"
	"stratum/lex"
	"stratum/parse"
	"stratum/print"
)

// The examples of the chapter

func TestValuesOfTheChapter(t *testing.T) {
	for written, want := range map[string]string{
		"1 + 2 * 3": "(1 + (2 * 3))", "-(1 - 2)": "-(1 - 2)", "- - 5": "--5", `cat("a", "b\n")`: `cat("a", "b\n")`, `rep("x", 3)`: `rep("x", 3)`,
	} {
		nodes, _, err := parse.Value(written)
		if err != api.OK {
			t.Fatal(written, err)
		}
		wantValue(t, nodes, want)
	}
	wantValueFault(t, nodes(op(api.ExAdd)), api.ErrArg)
	wantValueFault(t, nodes(api.Node{Op: api.ExNumber, Text: "x"}), api.ErrArg)
	wantValueFault(t, deepNodes(101, num(1), op(api.ExNeg)), api.ErrDepth)
	wantValue(t, deepNodes(100, num(1), op(api.ExNeg)), times("-", 99)+"1")
}

func TestSchemasOfTheChapter(t *testing.T) {
	read, _, _ := parse.Schema("event e{version 1{add a:int;}version 2{}}")
	wantSchema(t, read, "event e {\n  version 1 {\n    add a: int;\n  }\n  version 2 {\n  }\n}\n")
	wantSchema(t, api.Schema{}, "")
	none := version(1)
	for _, s := range []api.Schema{
		events(event("", none)), events(event("event", none)), events(event("a")),
		tree(api.StepDecl{Kind: 0, A: "x"}), tree(api.StepDecl{Kind: 7, A: "x"}), tree(api.StepDecl{Kind: api.StepRename, A: "x", B: "y", Sep: ","}),
		tree(add("x", "uint", op(api.ExAdd))), tree(add("x", "uint", api.Node{Op: api.ExNumber, Text: "x"})),
	} {
		wantSchemaFault(t, s, api.ErrArg)
	}
	const form = `event NAME {
  version 1 {
    add id: uint;
    add note: text = "none";
    rename note to memo;
    split memo at "," into first, rest;
    join first, rest with ", " into memo;
    retype id to text;
    drop memo;
  }
}
`
	wantSchema(t, events(event("NAME", version(1,
		add("id", "uint"), add("note", "text", text("none")), step("rename", "note", "memo"), cut("split", "memo", "first", "rest", ","),
		cut("join", "first", "rest", "memo", ", "), step("retype", "id", "text"), step("drop", "memo")))), form)
}

// P10.1: expressions

func TestEachNode(t *testing.T) {
	a, b, c := num(1), text("b"), op(api.ExTrue)
	wantValue(t, nodes(a), "1")
	wantValue(t, nodes(b), `"b"`)
	wantValue(t, nodes(c), "true")
	wantValue(t, nodes(op(api.ExFalse)), "false")
	wantValue(t, nodes(a, op(api.ExNeg)), "-1")
	wantValue(t, nodes(a, b, op(api.ExAdd)), `(1 + "b")`)
	wantValue(t, nodes(a, b, op(api.ExSub)), `(1 - "b")`)
	wantValue(t, nodes(a, b, op(api.ExMul)), `(1 * "b")`)
	wantValue(t, nodes(a, cat(1)), "cat(1)")
	wantValue(t, nodes(a, b, cat(2)), `cat(1, "b")`)
	wantValue(t, nodes(a, b, c, cat(3)), `cat(1, "b", true)`)
	wantValue(t, nodes(a, b, op(api.ExRep)), `rep(1, "b")`)
	wantValue(t, nodes(b, op(api.ExLen)), `len("b")`)
	wantValue(t, nodes(b, op(api.ExHex)), `hex("b")`)
}

func TestNumbers(t *testing.T) {
	for n, want := range map[uint64]string{
		0: "0", 1: "1", 9: "9", 10: "10", 4294967296: "4294967296", 9223372036854775807: "9223372036854775807", 9223372036854775808: "9223372036854775808", 18446744073709551615: "18446744073709551615",
	} {
		wantValue(t, nodes(num(n)), want)
		wantValue(t, nodes(num(n), op(api.ExNeg), num(n), op(api.ExSub)), "(-"+want+" - "+want+")")
		wantSchema(t, events(event("e", api.VersionDecl{Number: n})), "event e {\n  version "+want+" {\n  }\n}\n")
	}
}

func TestTextsOfEveryByte(t *testing.T) {
	all := make([]byte, 256)
	for i := range all {
		all[i] = byte(i)
	}
	for s, want := range map[string]string{
		"": `""`, "a": `"a"`, " ": `" "`, "~": `"~"`, "\x7f": `"\x7f"`, "\x1f": `"\x1f"`, "\n": `"\n"`, "\t": `"\t"`, "\r": `"\x0d"`, `\`: `"\\"`, `"`: `"\""`, "\x00": `"\x00"`, "\xff": `"\xff"`,
		"é": `"\xc3\xa9"`, "a\"\n\xff": `"a\"\n\xff"`, `\n`: `"\\n"`, "#": `"#"`, "%s": `"%s"`, string(all): plainQuote(string(all)),
	} {
		wantValue(t, nodes(text(s)), want)
		wantSchema(t, tree(cut("split", "a", "b", "c", s)), lines("split a at "+want+" into b, c;"))
		wantSchema(t, tree(cut("join", "a", "b", "c", s)), lines("join a, b with "+want+" into c;"))
		wantSchema(t, tree(add("a", "b", text(s))), lines("add a: b = "+want+";"))
	}
	for i := range 256 {
		for _, s := range []string{string(all[i : i+1]), "a" + string(all[i:i+1]) + "0"} {
			wantValue(t, nodes(text(s)), plainQuote(s))
			wantSchema(t, tree(cut("join", "a", "b", "c", s)), lines("join a, b with "+plainQuote(s)+" into c;"))
		}
	}
}

func TestACatOfManyKids(t *testing.T) {
	for _, n := range []int{1, 2, 3, 4, 10, 255, 256, 257, 1000, 65536, 200000} {
		var kids []api.Node
		for range n {
			kids = append(kids, num(7))
		}
		wantValue(t, append(kids, cat(n)), "cat(7"+times(", 7", n-1)+")")
		wantValueFault(t, append(kids, cat(n+1)), api.ErrArg)
		if n > 1 {
			wantValueFault(t, append(kids, cat(n-1)), api.ErrArg)
		}
	}
}

// ops are nodes of each kind, cat with some N, and how many kids they have.
func ops() map[api.Node]int {
	return map[api.Node]int{
		num(5): 0, text("t"): 0, op(api.ExTrue): 0, op(api.ExFalse): 0, op(api.ExNeg): 1, op(api.ExAdd): 2, op(api.ExSub): 2, op(api.ExMul): 2,
		cat(1): 1, cat(2): 2, cat(4): 4, op(api.ExRep): 2, op(api.ExLen): 1, op(api.ExHex): 1,
	}
}

// over is n over so many kids of its own, all numbers but the one at a place, which is kid.
func over(n api.Node, kids int, place int, kid []api.Node) []api.Node {
	var out []api.Node
	for i := range kids {
		if i == place {
			out = append(out, kid...)
		} else {
			out = append(out, num(uint64(i)))
		}
	}
	return append(out, n)
}

func TestNodesWithinNodes(t *testing.T) {
	for inner, innerKids := range ops() {
		kid := over(inner, innerKids, -1, nil)
		alone, _ := print.Value(kid)
		for outer, kids := range ops() {
			for place := range kids {
				whole := over(outer, kids, place, kid)
				wantPlainValue(t, whole)
				if got, _ := print.Value(whole); !strings.Contains(got, alone) {
					t.Errorf("%s: %s, without %s", shown(whole), got, alone)
				}
				for top, topKids := range ops() {
					for at := range topKids {
						wantPlainValue(t, over(top, topKids, at, whole))
					}
				}
			}
		}
	}
	wantValue(t, nodes(num(1), num(2), op(api.ExSub), num(3), op(api.ExSub)), "((1 - 2) - 3)")
	wantValue(t, nodes(num(1), num(2), num(3), op(api.ExSub), op(api.ExSub)), "(1 - (2 - 3))")
	wantValue(t, nodes(num(1), num(2), op(api.ExMul), num(3), op(api.ExAdd)), "((1 * 2) + 3)")
	wantValue(t, nodes(num(1), op(api.ExNeg), num(2), op(api.ExNeg), op(api.ExSub)), "(-1 - -2)")
	wantValue(t, nodes(num(1), num(2), op(api.ExAdd), op(api.ExNeg), op(api.ExLen)), "len(-(1 + 2))")
	wantValue(t, nodes(num(1), num(2), op(api.ExAdd), op(api.ExLen)), "len((1 + 2))")
	wantValue(t, nodes(num(1), num(2), cat(2), num(3), cat(1), cat(2)), "cat(cat(1, 2), cat(3))")
}

func TestBracketsStandNowhereElse(t *testing.T) {
	r := lcg(101)
	for range 3000 {
		all := r.nodes(1 + r.below(7))
		brackets := 0
		for i := range all {
			switch all[i].Op {
			case api.ExText:
				all[i].Text = "t"
			case api.ExAdd, api.ExSub, api.ExMul, api.ExCat, api.ExRep, api.ExLen, api.ExHex:
				brackets++
			}
		}
		got, _ := print.Value(all)
		if strings.Count(got, "(") != brackets || strings.Count(got, ")") != brackets {
			t.Errorf("%s: %s, not %d brackets", shown(all), got, brackets)
		}
	}
}

func TestExpressionsByChance(t *testing.T) {
	r := lcg(102)
	for range 10000 {
		wantPlainValue(t, r.nodes(1+r.below(7)))
	}
}

// everyList gives all lists of these nodes, up to a length.
func everyList(some []api.Node, length int, give func([]api.Node)) {
	lists := [][]api.Node{nil}
	for range length {
		var longer [][]api.Node
		for _, l := range lists {
			for _, n := range some {
				longer = append(longer, append(slices.Clip(l), n))
			}
		}
		for _, l := range longer {
			give(l)
		}
		lists = longer
	}
}

func TestEveryShortList(t *testing.T) {
	var some []api.Node
	for n := range ops() {
		some = append(some, n)
	}
	some = append(some, cat(0), cat(-1), cat(3), cat(math.MaxInt), cat(math.MinInt), op(0), op(13), op(-1), api.Node{Op: api.ExNumber, N: 1}, api.Node{Op: api.ExNeg, Num: 1}, api.Node{Op: api.ExAdd, Text: "x"})
	everyList(some, 3, func(l []api.Node) { wantPlainValue(t, l) })
	everyList([]api.Node{num(1), op(api.ExNeg), op(api.ExMul), cat(1), cat(2), cat(3)}, 6, func(l []api.Node) { wantPlainValue(t, l) })
	everyList([]api.Node{num(1), op(api.ExAdd)}, 11, func(l []api.Node) { wantPlainValue(t, l) })
}

func TestNoExpressions(t *testing.T) {
	wantValueFault(t, nil, api.ErrArg)
	wantValueFault(t, []api.Node{}, api.ErrArg)
	for n, kids := range ops() {
		right := over(n, kids, -1, nil)
		wantPlainValue(t, right)
		wantValueFault(t, append(slices.Clip(right), num(1)), api.ErrArg)                                  // one left over
		wantValueFault(t, append(nodes(num(1)), right...), api.ErrArg)                                     // one left over ahead
		wantValueFault(t, append(append(slices.Clip(right), right...), op(api.ExLen)), api.ErrArg)         // two subtrees
		wantValueFault(t, append(slices.Clip(right), op(api.ExAdd)), api.ErrArg)                           // a kid too few
		wantValueFault(t, append(slices.Clip(right), num(1), num(2), op(api.ExAdd)), api.ErrArg)           // a node too many
		wantValueFault(t, append(slices.Clip(right), cat(2)), api.ErrArg)                                  // a kid too few
		wantValueFault(t, append(append(slices.Clip(right), cat(2)), num(1), op(api.ExAdd)), api.ErrArg)   // in the midst
		wantValueFault(t, append(append(slices.Clip(right), op(api.ExAdd)), num(1), num(1)), api.ErrArg)   // at the front
		wantValueFault(t, append(nodes(op(99)), append(slices.Clip(right), op(api.ExAdd))...), api.ErrArg) // no Op
		if kids > 0 {
			wantValueFault(t, right[1:], api.ErrArg)
			wantValueFault(t, nodes(n), api.ErrArg)
		}
	}
	for _, no := range []int{0, -1, 13, 14, 100, math.MaxInt, math.MinInt, 1 << 32, 1<<32 + 1, 256 + 3, -3} {
		wantValueFault(t, nodes(op(no)), api.ErrArg)
		wantValueFault(t, nodes(num(1), op(no)), api.ErrArg)
		wantValueFault(t, nodes(op(no), op(api.ExNeg)), api.ErrArg)
		wantValueFault(t, nodes(num(1), num(1), op(no)), api.ErrArg)
	}
	for _, n := range []int{0, -1, -2, 3, 4, 1 << 32, 1<<32 + 2, math.MaxInt, math.MinInt, math.MinInt + 2} {
		wantValueFault(t, nodes(num(1), num(2), cat(n)), api.ErrArg)
		wantValueFault(t, nodes(num(1), num(2), cat(n), op(api.ExNeg)), api.ErrArg)
		wantValueFault(t, nodes(num(1), num(2), cat(n), cat(1)), api.ErrArg)
		wantValueFault(t, nodes(cat(n)), api.ErrArg)
	}
}

func TestFieldsThatANodeDoesNotUse(t *testing.T) {
	for n, kids := range ops() {
		uses := plainOps[n.Op].uses
		for _, at := range []int{0, 1, -1, 100, math.MaxInt, math.MinInt} {
			other := n
			other.At = at
			want, _ := print.Value(over(n, kids, -1, nil))
			wantValue(t, over(other, kids, -1, nil), want)
		}
		for _, some := range []int{1, 2, -1, kids, math.MaxInt, math.MinInt} {
			other := n
			other.N += some
			if other.N != n.N {
				wantValueFault(t, over(other, kids, -1, nil), api.ErrArg)
			}
			other = n
			other.Num = n.Num + uint64(some)
			if uses != "Num" && other.Num != 0 {
				wantValueFault(t, over(other, kids, -1, nil), api.ErrArg)
				wantValueFault(t, append(over(other, kids, -1, nil), op(api.ExNeg)), api.ErrArg)
			}
		}
		for _, some := range []string{"x", " ", "\x00", "true", times("long", 100)} {
			other := n
			other.Text = some
			if uses != "Text" {
				wantValueFault(t, over(other, kids, -1, nil), api.ErrArg)
				wantValueFault(t, append(over(other, kids, -1, nil), op(api.ExLen)), api.ErrArg)
			}
		}
	}
}

func TestExpressionsWithFaultsByChance(t *testing.T) {
	r := lcg(103)
	told := map[api.Errno]int{}
	for range 20000 {
		all := r.nodes(1 + r.below(5))
		for range 1 + r.below(2) {
			r.disturb(&all)
		}
		wantPlainValue(t, all)
		_, err := print.Value(all)
		told[err]++
	}
	if told[api.OK] < 2000 || told[api.ErrArg] < 2000 {
		t.Errorf("%v", told)
	}
}

// P10.1: schemas

// everyStep is a step of each kind, an add with and without a default.
func everyStep() []api.StepDecl {
	return []api.StepDecl{
		add("a1", "uint"), add("a2", "text", text("n"), num(2), op(api.ExRep)), step("rename", "b1", "b2"), cut("split", "c1", "c2", "c3", "; "),
		cut("join", "d1", "d2", "d3", ""), step("retype", "e1", "int"), step("drop", "f1"),
	}
}

func TestEachStep(t *testing.T) {
	for i, want := range []string{
		"add a1: uint;", `add a2: text = rep("n", 2);`, "rename b1 to b2;", `split c1 at "; " into c2, c3;`, `join d1, d2 with "" into d3;`, "retype e1 to int;", "drop f1;",
	} {
		s := everyStep()[i]
		wantSchema(t, tree(s), lines(want))
		for _, other := range everyStep() {
			both, _ := plainStep(other)
			wantSchema(t, tree(s, other), lines(want, strings.TrimSuffix(both.text, "\n")))
		}
		s.Value = append([]api.Node{}, s.Value...)
		wantSchema(t, tree(s), lines(want)) // an empty list is none
	}
}

func TestLinesOfASchema(t *testing.T) {
	wantSchema(t, api.Schema{Events: []api.EventDecl{}}, "")
	wantSchema(t, events(event("a", version(1))), "event a {\n  version 1 {\n  }\n}\n")
	wantSchema(t, events(event("a", version(1), version(2), version(2), version(0))), "event a {\n  version 1 {\n  }\n  version 2 {\n  }\n  version 2 {\n  }\n  version 0 {\n  }\n}\n")
	wantSchema(t, events(event("a", version(1)), event("a", version(7)), event("b", version(1))), "event a {\n  version 1 {\n  }\n}\nevent a {\n  version 7 {\n  }\n}\nevent b {\n  version 1 {\n  }\n}\n")
	wantSchema(t, events(event("a", version(1, step("drop", "x")), version(2), version(3, step("drop", "y"), step("drop", "x")))),
		"event a {\n  version 1 {\n    drop x;\n  }\n  version 2 {\n  }\n  version 3 {\n    drop y;\n    drop x;\n  }\n}\n")
	wantSchema(t, events(event("_", api.VersionDecl{Number: 1, Steps: []api.StepDecl{}})), "event _ {\n  version 1 {\n  }\n}\n")
}

func TestSchemasByChance(t *testing.T) {
	r := lcg(104)
	for range 5000 {
		wantPlainSchema(t, r.tree())
	}
}

// namesOf gives each name of a step, to be changed.
func namesOf(s *api.StepDecl, give func(*string)) {
	for _, name := range strings.Fields(plainSteps[s.Kind].names) {
		if name != "Sep" {
			give(reflect.ValueOf(s).Elem().FieldByName(name).Addr().Interface().(*string))
		}
	}
}

func TestNamesOfATree(t *testing.T) {
	good := []string{"a", "Z", "_", "a1", "A_9z", "__", "Event", "EVENT", "events", "eventevent", "ad", "tru", "uint", "no_kind", times("n", 64), "_" + times("9", 63)}
	bad := append([]string{"", " ", "1", "1a", "a b", " a", "a ", "a-b", "a.b", "a\n", "a\x00", "\x00", "é", "aé", "a\xff", `"a"`, "a;", "{", "-", "\u212a", times("n", 65), times("n", 66), times("n", 100000)}, words...)
	for _, name := range good {
		wantPlainSchema(t, events(event(name, version(1))))
		wantSchema(t, events(event(name, version(1))), "event "+name+" {\n  version 1 {\n  }\n}\n")
	}
	for _, name := range bad {
		wantSchemaFault(t, events(event(name, version(1))), api.ErrArg)
		wantSchemaFault(t, events(event("a", version(1)), event(name, version(1))), api.ErrArg)
		wantSchemaFault(t, events(event(name, version(1)), event("a", version(1))), api.ErrArg)
	}
	for _, s := range everyStep() {
		namesOf(&s, func(at *string) {
			was := *at
			for _, name := range good {
				*at = name
				wantPlainSchema(t, tree(s))
				if _, err := print.Schema(tree(s)); err != api.OK {
					t.Errorf("%+v: %d", s, err)
				}
			}
			for _, name := range bad {
				*at = name
				wantSchemaFault(t, tree(s), api.ErrArg)
				wantSchemaFault(t, events(event("a", version(1)), event("b", version(1), version(2, step("drop", "x"), s, step("drop", "x")), version(3))), api.ErrArg)
			}
			*at = was
		})
	}
}

func TestFieldsThatAStepDoesNotHave(t *testing.T) {
	for _, s := range everyStep() {
		for _, name := range []string{"A", "B", "C", "Sep", "Type"} {
			if slices.Contains(strings.Fields(plainSteps[s.Kind].names), name) {
				continue
			}
			for _, some := range []string{"x", " ", "\x00", "to", s.A, "\xff"} {
				other := s
				reflect.ValueOf(&other).Elem().FieldByName(name).SetString(some)
				wantSchemaFault(t, tree(other), api.ErrArg)
				wantSchemaFault(t, tree(step("drop", "x"), other), api.ErrArg)
			}
		}
		for _, value := range [][]api.Node{nodes(num(1)), nodes(op(api.ExTrue)), nodes(op(0)), nodes(op(api.ExAdd)), make([]api.Node, 1), make([]api.Node, 2), deepNodes(101, num(1), op(api.ExNeg))} {
			other := s
			other.Value = value
			if s.Kind != api.StepAdd {
				wantSchemaFault(t, tree(other), api.ErrArg)
			}
			wantPlainSchema(t, tree(other))
		}
		for _, at := range []int{0, 1, -1, math.MaxInt, math.MinInt} {
			other := s
			other.At = at
			want, _ := plainSchema(tree(s))
			u := tree(other)
			u.Events[0].At, u.Events[0].Versions[0].At = at, at
			wantSchema(t, u, want)
		}
	}
}

func TestKindsOfSteps(t *testing.T) {
	for _, s := range everyStep() {
		for _, kind := range []int{0, 1, 2, 3, 4, 5, 6, 7, 8, -1, -6, 256 + 1, 1<<32 + 6, math.MaxInt, math.MinInt} {
			other := s
			other.Kind = kind
			wantPlainSchema(t, tree(other))
			if kind < 1 || kind > 6 {
				wantSchemaFault(t, tree(other), api.ErrArg)
				wantSchemaFault(t, tree(s, other, s), api.ErrArg)
			}
		}
	}
	for kind := range 9 {
		wantSchemaFault(t, tree(api.StepDecl{Kind: kind}), api.ErrArg)
	}
}

func TestEventsWithoutVersions(t *testing.T) {
	wantSchemaFault(t, events(event("a")), api.ErrArg)
	wantSchemaFault(t, events(api.EventDecl{Name: "a", Versions: []api.VersionDecl{}}), api.ErrArg)
	wantSchemaFault(t, events(event("a", version(1)), event("b")), api.ErrArg)
	wantSchemaFault(t, events(event("b"), event("a", version(1))), api.ErrArg)
	wantSchemaFault(t, events(api.EventDecl{}), api.ErrArg)
}

func TestSchemasWithFaultsByChance(t *testing.T) {
	r := lcg(105)
	told := map[api.Errno]int{}
	for range 20000 {
		u := r.tree()
		for range 1 + r.below(2) {
			r.disturb(&u)
		}
		wantPlainSchema(t, u)
		_, err := print.Schema(u)
		told[err]++
	}
	if told[api.OK] < 2000 || told[api.ErrArg] < 2000 {
		t.Errorf("%v", told)
	}
}

// P10.1: depth

// deepNodes is an expression of a depth: first, and then the others over it, again and again.
func deepNodes(depth int, first api.Node, others ...api.Node) []api.Node {
	out := nodes(first)
	for range depth - 1 {
		out = append(out, others...)
	}
	return out
}

// deepOnes are expressions of a depth, by each kind of node.
func deepOnes(depth int) [][]api.Node {
	var out [][]api.Node
	for _, n := range []api.Node{op(api.ExNeg), op(api.ExLen), op(api.ExHex), cat(1)} {
		out = append(out, deepNodes(depth, num(1), n))
		below := deepNodes(depth-1, num(1), n)
		for outer, kids := range ops() {
			for place := range kids {
				out = append(out, over(outer, kids, place, below))
			}
		}
	}
	for _, n := range []api.Node{op(api.ExAdd), op(api.ExSub), op(api.ExMul), op(api.ExRep), cat(2)} {
		out = append(out, deepNodes(depth, num(1), num(2), n)) // to the left
		right := nodes(num(1))
		for i := range depth - 1 {
			right = append(nodes(num(uint64(i))), append(right, n)...)
		}
		out = append(out, right)
	}
	for _, leaf := range []api.Node{text("t"), op(api.ExTrue), op(api.ExFalse)} {
		out = append(out, deepNodes(depth, leaf, op(api.ExNeg)))
	}
	return append(out, deepNodes(depth, num(1), num(2), num(3), cat(3)), append(deepNodes(depth-1, num(1), op(api.ExNeg)), append(deepNodes(depth-2, num(1), op(api.ExNeg)), op(api.ExAdd))...))
}

func TestDepthOfExpressions(t *testing.T) {
	for _, depth := range []int{99, 100} {
		for _, l := range deepOnes(depth) {
			wantPlainValue(t, l)
			wantPlainSchema(t, tree(add("x", "y", l...), add("z", "y", l...)))
			if _, err := print.Value(l); err != api.OK {
				t.Errorf("%s of depth %d: %d", shown(l), depth, err)
			}
		}
	}
	for _, depth := range []int{101, 102, 200} {
		for _, l := range deepOnes(depth) {
			wantValueFault(t, l, api.ErrDepth)
		}
	}
	wantValueFault(t, deepNodes(2000000, num(1), op(api.ExNeg)), api.ErrDepth)
	wantValueFault(t, deepNodes(1000000, num(1), num(1), op(api.ExAdd)), api.ErrDepth)
}

// The order of the errors

func TestArgComesAheadOfDepth(t *testing.T) {
	for _, deep := range deepOnes(101) {
		wantValueFault(t, append(slices.Clip(deep), num(1)), api.ErrArg)
		wantValueFault(t, append(nodes(num(1)), deep...), api.ErrArg)
		wantValueFault(t, append(slices.Clip(deep), op(api.ExAdd)), api.ErrArg)
		wantValueFault(t, append(slices.Clip(deep), op(13)), api.ErrArg)
		wantValueFault(t, append(slices.Clip(deep), api.Node{Op: api.ExNeg, Num: 1}), api.ErrArg)
		wantValueFault(t, append(slices.Clip(deep), cat(0)), api.ErrArg)
		wantValueFault(t, append(nodes(api.Node{Op: api.ExNumber, N: 1}), deep...), api.ErrArg)
	}
	deep := add("x", "uint", deepNodes(101, num(1), op(api.ExNeg))...)
	fine := step("drop", "x")
	for _, bad := range []api.StepDecl{step("drop", ""), step("drop", "to"), {Kind: 7, A: "x"}, add("x", "uint", op(api.ExAdd)), {Kind: api.StepDrop, A: "x", B: "y"}} {
		wantSchemaFault(t, tree(deep, bad), api.ErrArg)
		wantSchemaFault(t, tree(bad, deep), api.ErrArg)
		wantSchemaFault(t, events(event("a", version(1, deep), version(2, bad))), api.ErrArg)
		wantSchemaFault(t, events(event("a", version(1, fine), version(2, bad)), event("b", version(1, deep))), api.ErrArg)
	}
	wantSchemaFault(t, events(event("a", version(1, deep)), event("b")), api.ErrArg)
	wantSchemaFault(t, events(event("a"), event("b", version(1, deep))), api.ErrArg)
	wantSchemaFault(t, events(event("a", version(1, deep)), event("at", version(1))), api.ErrArg)
	wantSchemaFault(t, events(event("at", version(1, deep))), api.ErrArg)
	other := deep
	other.Sep = ","
	wantSchemaFault(t, tree(other), api.ErrArg)
	other = deep
	other.Type = ""
	wantSchemaFault(t, tree(other), api.ErrArg)
	for _, u := range []api.Schema{tree(deep), tree(fine, deep), tree(deep, fine), tree(deep, deep), events(event("a", version(1)), event("b", version(1, fine), version(2, deep)), event("c", version(1)))} {
		wantSchemaFault(t, u, api.ErrDepth)
	}
}

func TestLongComesLast(t *testing.T) {
	long := text(times("t", api.MaxText+1))
	deep := deepNodes(101, num(1), op(api.ExNeg))
	wantValueFault(t, nodes(long), api.ErrLong)
	wantValueFault(t, nodes(long, num(1)), api.ErrArg)
	wantValueFault(t, nodes(num(1), long), api.ErrArg)
	wantValueFault(t, nodes(long, op(api.ExAdd)), api.ErrArg)
	wantValueFault(t, deepNodes(101, long, op(api.ExNeg)), api.ErrDepth)
	wantValueFault(t, append(nodes(long), append(slices.Clip(deep), op(api.ExAdd))...), api.ErrDepth)
	wantValueFault(t, append(slices.Clip(deep), long, op(api.ExAdd)), api.ErrDepth)
	wantValueFault(t, append(slices.Clip(deep), long, op(api.ExAdd), num(1)), api.ErrArg)
	sep := cut("split", "a", "b", "c", long.Text)
	for _, longs := range []api.StepDecl{sep, add("x", "uint", long)} {
		wantSchemaFault(t, tree(longs), api.ErrLong)
		wantSchemaFault(t, tree(longs, add("x", "uint", deep...)), api.ErrDepth)
		wantSchemaFault(t, tree(add("x", "uint", deep...), longs), api.ErrDepth)
		wantSchemaFault(t, tree(longs, add("x", "uint", deep...), step("drop", "to")), api.ErrArg)
		wantSchemaFault(t, tree(longs, step("drop", "to")), api.ErrArg)
		wantSchemaFault(t, events(event("a", version(1, longs)), event("b")), api.ErrArg)
	}
	wantSchemaFault(t, events(event(times("n", api.MaxText+1), version(1))), api.ErrArg)
}

// P10.1: how long a text is

func TestValuesOfTheGreatestLength(t *testing.T) {
	const most = 1048576
	for _, one := range []string{"a", "\n", "\\", "\xff", "\x00"} {
		each := len(plainQuote(one)) - 2
		n := (most - 2) / each
		rest := times("a", (most-2)%each)
		wantValue(t, nodes(text(rest+times(one, n))), `"`+rest+times(plainQuote(one)[1:1+each], n)+`"`)
		wantValueFault(t, nodes(text(rest+times(one, n)+"a")), api.ErrLong)
		wantValueFault(t, nodes(text("a"+rest+times(one, n))), api.ErrLong)
		wantValueFault(t, nodes(text(times(one, n+1))), api.ErrLong)
		wantValueFault(t, nodes(text(times(one, most-2+1))), api.ErrLong)
		wantValueFault(t, nodes(text(times(one, 2*most))), api.ErrLong)
	}
	for n, kids := range ops() {
		for place := range kids {
			l := over(n, kids, place, nodes(text("")))
			small, _ := print.Value(l)
			filler := times("a", most-len(small))
			l[place].Text = filler
			wantValue(t, l, strings.Replace(small, `""`, `"`+filler+`"`, 1))
			for more := range len(small) - strings.Index(small, `""`) + 1 { // the end comes at each byte behind the text
				l[place].Text = filler + times("a", more+1)
				wantValueFault(t, l, api.ErrLong)
			}
		}
	}
	for _, n := range []int{most/3 - 2, most/3 - 1, most / 3, most/3 + 1, most / 2} {
		var kids []api.Node
		for range n {
			kids = append(kids, num(7))
		}
		wantPlainValue(t, append(kids, cat(n)))
	}
}

func TestSchemasOfTheGreatestLength(t *testing.T) {
	const most = 1048576
	tail := append(everyStep(), add("z", "text", nodes(text("a"), text("b"), num(100), op(api.ExNeg), op(api.ExTrue), op(api.ExFalse), op(api.ExSub), cat(4), op(api.ExHex), op(api.ExLen))...))
	fill := func(first api.StepDecl, n int) api.Schema {
		if first.Kind == api.StepAdd {
			first.Value = nodes(text(times("a", n)))
		} else {
			first.Sep = times("a", n)
		}
		return events(event("a", version(1)), event("b", version(1, first), version(2, tail...), version(3)), event("c", version(1)))
	}
	for _, first := range []api.StepDecl{cut("split", "a", "b", "c", ""), cut("join", "a", "b", "c", ""), add("a", "b")} {
		small, _ := print.Schema(fill(first, 0))
		n := most - len(small)
		want := strings.Replace(small, `""`, `"`+times("a", n)+`"`, 1)
		wantSchema(t, fill(first, n), want)
		behind := 8 // the end comes at these last bytes; for one of the three at each byte behind the text
		if first.Kind == api.StepSplit {
			behind = len(small) - strings.Index(small, `""`)
		}
		for more := range behind + 1 {
			wantSchemaFault(t, fill(first, n+more+1), api.ErrLong)
		}
		wantSchemaFault(t, fill(first, most), api.ErrLong)
		wantSchemaFault(t, fill(first, 3*most), api.ErrLong)
	}
}

func TestManyEventsVersionsAndSteps(t *testing.T) {
	one := "event a {\n  version 1 {\n  }\n}\n"
	for _, n := range []int{api.MaxText / len(one), api.MaxText/len(one) + 1, 500000} {
		wantPlainSchema(t, api.Schema{Events: slices.Repeat([]api.EventDecl{event("a", version(1))}, n)})
	}
	for _, n := range []int{58252, 58253, 58254, 65536} { // a version, and a step, have 18 bytes
		wantPlainSchema(t, events(event("a", slices.Repeat([]api.VersionDecl{version(3)}, n)...)))
		wantPlainSchema(t, tree(slices.Repeat([]api.StepDecl{step("drop", "abcdefg")}, n)...))
	}
}

// P10.2

func TestSameTextsJustOfSameTrees(t *testing.T) {
	r := lcg(106)
	same, other := 0, 0
	for range 20000 {
		first := r.tree()
		second := clonedTree(first)
		for range 1 + r.below(2) {
			r.disturb(&second)
		}
		a, errA := print.Schema(first)
		b, errB := print.Schema(second)
		if errA != api.OK || errB != api.OK {
			continue
		}
		if sameTree(first, second) != (a == b) {
			t.Errorf("%s and %s: %s, %s", shown(first), shown(second), show(a), show(b))
		}
		if a == b {
			same++
		} else {
			other++
		}
	}
	if same < 1000 || other < 1000 {
		t.Error(same, other)
	}
}

func TestSameTextsJustOfSameNodes(t *testing.T) {
	texts := map[string][]api.Node{}
	see := func(l []api.Node) {
		s, err := print.Value(l)
		if err != api.OK {
			return
		}
		if was, ok := texts[s]; ok && !sameNodes(was, l) {
			t.Errorf("%s: %s and %s", s, shown(was), shown(l))
		}
		texts[s] = slices.Clone(l)
	}
	everyList([]api.Node{num(1), num(11), text("1"), text(`", "`), op(api.ExTrue), text("true"), op(api.ExNeg), op(api.ExAdd), op(api.ExSub), cat(1), cat(2), op(api.ExRep), op(api.ExLen)}, 5, see)
	if len(texts) < 3000 {
		t.Error(len(texts))
	}
}

// P10.3, and P3

// loosened is a text with other blanks and remarks between its tokens, and brackets around some of its numbers.
func (r *lcg) loosened(s string) string {
	tokens, _, _ := lex.Lex(s)
	var out strings.Builder
	for _, k := range tokens {
		out.WriteString(oneOf(r, " ", "\n", "\t", "\r\n  ", "# event a {\n"))
		token := s[k.At:k.End]
		if ahead := strings.TrimRight(s[:k.At], " \n"); k.Kind == api.TokNumber && !strings.HasSuffix(ahead, "version") {
			token = times("(", r.below(3)) + token
			token += times(")", strings.Count(token, "("))
		}
		out.WriteString(token)
	}
	return out.String()
}

func wantReadAndPrinted(t *testing.T, s string) {
	t.Helper()
	read, place, err := parse.Schema(s)
	if err != api.OK {
		t.Fatalf("%s: %d at %d", show(s), err, place)
	}
	wantPlainSchema(t, read)
	printed, err := print.Schema(read)
	if err != api.OK && err != api.ErrLong {
		t.Errorf("%s: %d", show(s), err)
	}
	if err == api.OK {
		again, _, _ := parse.Schema(printed)
		if twice, err := print.Schema(again); twice != printed || err != api.OK {
			t.Errorf("%s: %s and then %s, %d", show(s), show(printed), show(twice), err)
		}
	}
}

func TestWhatIsReadIsPrinted(t *testing.T) {
	r := lcg(107)
	for range 3000 {
		printed, _ := print.Schema(r.tree())
		wantReadAndPrinted(t, r.loosened(printed))
	}
	for _, value := range []string{
		"1+2*3-4", "1-2-3", "1-(2-3)", "1*2*3", "(1*(2*3))", "-1*2", "-(1*2)", "--1", "- -(-1)", "((((1))))", `"a"+"b"+cat("c","d")`, "007", "len(1)*hex(2)-rep(3,4)",
		times("(", 100) + "1" + times(")", 100), times("-", 99) + "1", "1" + times("+1", 99), "1" + times("*1", 99), times("len(", 99) + "1" + times(")", 99), times("(1+", 99) + "1" + times(")", 99),
		"cat(1" + times(",1", 5000) + ")", times("cat(1,", 99) + "1" + times(")", 99),
	} {
		wantReadAndPrinted(t, "event a{version 2{add x:y="+value+";}}")
		l, _, _ := parse.Value(value)
		wantPlainValue(t, l)
		if _, err := print.Value(l); err != api.OK {
			t.Errorf("%s: %d", show(value), err)
		}
	}
}

func TestWhatIsReadMayBeTooLong(t *testing.T) {
	for _, s := range []string{"event a{version 1{" + times("drop x;", 149000) + "}}", times("event a{version 1{}}", 52428), `event a{version 1{add x:y="` + times("\xff", 1000000) + `";}}`} {
		read, _, err := parse.Schema(s)
		if err != api.OK {
			t.Fatal(err)
		}
		wantSchemaFault(t, read, api.ErrLong)
	}
	wantReadAndPrinted(t, "event a{version 1{"+times("drop x;", 80000)+"}}")
	long, _, _ := parse.Value("cat(1" + times(",1", 500000) + ")")
	wantValueFault(t, long, api.ErrLong)
}

// P10.4, and rule 3

// withRoom is the nodes with spare room behind them, which holds something.
func withRoom(l []api.Node) []api.Node {
	return append(slices.Clone(l), num(1), op(api.ExNeg), text("spare"))[:len(l)]
}

func TestWhatIsHandedInStays(t *testing.T) {
	r := lcg(108)
	for range 2000 {
		u := r.tree()
		for i := range u.Events {
			for j := range u.Events[i].Versions {
				v := &u.Events[i].Versions[j]
				v.Steps = append(slices.Clone(v.Steps), add("spare", "uint"))[:len(v.Steps)]
				for k := range v.Steps {
					if v.Steps[k].Kind == api.StepAdd {
						v.Steps[k].Value = withRoom(v.Steps[k].Value)
					}
				}
			}
		}
		was := clonedTree(u)
		got, _ := print.Schema(u)
		if !reflect.DeepEqual(u, was) {
			t.Fatalf("%s became %s", shown(was), shown(u))
		}
		for _, e := range u.Events {
			for _, v := range e.Versions {
				if spare := v.Steps[:cap(v.Steps)][len(v.Steps)]; spare.A != "spare" {
					t.Errorf("%+v behind the steps", spare)
				}
				for _, s := range v.Steps {
					if s.Kind == api.StepAdd && s.Value[:len(s.Value)+3][len(s.Value)+2].Text != "spare" {
						t.Errorf("%+v behind the nodes", s.Value[:len(s.Value)+3])
					}
					clear(s.Value[:cap(s.Value)])
				}
				clear(v.Steps[:cap(v.Steps)])
			}
			clear(e.Versions)
		}
		if want, _ := plainSchema(was); got != want {
			t.Errorf("%s: %s behind the change", shown(was), show(got))
		}
		wantPlainSchema(t, was)
	}
}

func TestNodesThatAreHandedInStay(t *testing.T) {
	r := lcg(109)
	for range 2000 {
		l := withRoom(r.nodes(1 + r.below(6)))
		if r.below(3) == 0 {
			r.disturb(&l)
			l = withRoom(l)
		}
		was := slices.Clone(l[:len(l)+3])
		got, err := print.Value(l)
		if !slices.Equal(l[:len(l)+3], was) {
			t.Fatalf("%s became %s", shown(was), shown(l[:len(l)+3]))
		}
		clear(l[:cap(l)])
		if want, wantErr := plainValue(was[:len(was)-3]); got != want || err != wantErr {
			t.Errorf("%s: %s behind the change", shown(was), show(got))
		}
	}
}

// share: whether two texts have bytes in common.
func share(a string, b string) bool {
	if a == "" || b == "" {
		return false
	}
	first, second := uintptr(unsafe.Pointer(unsafe.StringData(a))), uintptr(unsafe.Pointer(unsafe.StringData(b)))
	return first < second+uintptr(len(b)) && second < first+uintptr(len(a))
}

func TestNewMemory(t *testing.T) {
	s := strings.Clone("a text of some bytes")
	l := nodes(text(s))
	first, _ := print.Value(l)
	second, _ := print.Value(l)
	if share(first, s) || share(first, second) {
		t.Error("Value shares memory")
	}
	u := tree(cut("split", strings.Clone("abc"), "b", "c", s))
	first, _ = print.Schema(u)
	second, _ = print.Schema(u)
	if share(first, s) || share(first, u.Events[0].Versions[0].Steps[0].A) || share(first, second) {
		t.Error("Schema shares memory")
	}
}

func TestCallsBesideOneAnother(t *testing.T) {
	r := lcg(110)
	var trees []api.Schema
	var lists [][]api.Node
	for i := range 40 {
		u, l := r.tree(), r.nodes(1+r.below(6))
		if i%3 == 0 {
			r.disturb(&u)
			r.disturb(&l)
		}
		trees, lists = append(trees, u), append(lists, l)
	}
	var all sync.WaitGroup
	for range 8 {
		all.Go(func() {
			for range 20 {
				for i := range trees {
					wantPlainSchema(t, trees[i])
					wantPlainValue(t, lists[i])
				}
			}
		})
	}
	all.Wait()
}

// The parts of what is handed in.

func nodes(all ...api.Node) []api.Node { return all }
func num(n uint64) api.Node            { return api.Node{Op: api.ExNumber, Num: n} }
func text(s string) api.Node           { return api.Node{Op: api.ExText, Text: s} }
func cat(n int) api.Node               { return api.Node{Op: api.ExCat, N: n} }
func op(n int) api.Node                { return api.Node{Op: n} }

func add(name string, kind string, value ...api.Node) api.StepDecl {
	return api.StepDecl{Kind: api.StepAdd, A: name, Type: kind, Value: value}
}

// step is a rename, a retype or a drop.
func step(word string, names ...string) api.StepDecl {
	switch word {
	case "rename":
		return api.StepDecl{Kind: api.StepRename, A: names[0], B: names[1]}
	case "retype":
		return api.StepDecl{Kind: api.StepRetype, A: names[0], Type: names[1]}
	}
	return api.StepDecl{Kind: api.StepDrop, A: names[0]}
}

// cut is a split or a join.
func cut(word string, a string, b string, c string, sep string) api.StepDecl {
	kind := api.StepSplit
	if word == "join" {
		kind = api.StepJoin
	}
	return api.StepDecl{Kind: kind, A: a, B: b, C: c, Sep: sep}
}

func version(number uint64, steps ...api.StepDecl) api.VersionDecl {
	return api.VersionDecl{Number: number, Steps: steps}
}

func event(name string, versions ...api.VersionDecl) api.EventDecl {
	return api.EventDecl{Name: name, Versions: versions}
}

func events(all ...api.EventDecl) api.Schema { return api.Schema{Events: all} }

// tree is one with these steps alone, and lines the text of one with steps of these texts.
func tree(steps ...api.StepDecl) api.Schema { return events(event("e", version(1, steps...))) }

func lines(steps ...string) string {
	return "event e {\n  version 1 {\n    " + strings.Join(steps, "\n    ") + "\n  }\n}\n"
}
