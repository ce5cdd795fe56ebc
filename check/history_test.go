package check_test

import (
	"fmt"
	"slices"
	"testing"

	"stratum/api"
	"stratum/check"
	"stratum/expr"
	"stratum/parse"
	"stratum/print"
)

// The examples of the chapter

const one = "event a{version 1{add x:uint;}"

func TestHistoriesOfTheChapter(t *testing.T) {
	first := ver(done(added(1)), cols(col("x", 1, 1)))
	second := ver(done(addedAs(2, textOf("n")), renamed(1), retyped(1, 3)), cols(col("z", 1, 4), col("y", 2, 4)))
	third := ver(done(joined(1, 2, "-", 3)), cols(col("z", 3, 4)))
	fourth := ver(done(splitAt(3, "-", 4, 5), dropped(5)), cols(col("z", 4, 4)))
	a := func(versions ...api.Version) api.History { return types(api.Type{Name: "a", Versions: versions}) }
	wantText(t, one+"}", a(first))
	s := one + "version 2{add y:text=\"n\";rename x to z;retype z to text;}"
	wantText(t, s+"}", a(first, second))
	s += "version 3{join z,y with \"-\" into z;}"
	wantText(t, s+"}", a(first, second, third))
	s += "version 4{split z at \"-\" into z,w;drop w;}"
	wantText(t, s+"}", a(first, second, third, fourth))
}

func TestFaultsOfTheChapter(t *testing.T) {
	wantTextFault(t, "event a{version 2{}}", 8, api.ErrOrder)
	wantTextFault(t, "event a{version 1{}}event a{version 1{}}", 20, api.ErrTaken)
	for s, want := range map[string]struct {
		at  int
		err api.Errno
	}{
		"add x:uint=1;": {18, api.ErrValue}, "add x:num;": {18, api.ErrName}, "rename x to y;": {18, api.ErrName},
		"add x:text;split x at \"\" into a,b;": {29, api.ErrValue}, "add x:text;add y:uint;join x,y with \"\" into z;": {40, api.ErrKinds},
		"add x:uint;retype x to bytes;": {29, api.ErrConv}, "add x:uint;rename x to x;": {29, api.ErrTaken},
	} {
		wantTextFault(t, "event a{version 1{"+s+"}}", want.at, want.err)
	}
	wantTextFault(t, one+"version 2{add q:uint;}}", 40, api.ErrValue)
	wantTextFault(t, one+"version 2{add q:uint=\"a\";}}", 51, api.ErrKinds)
}

func TestFaultsOfTheWhole(t *testing.T) {
	wantTextFault(t, "event a { version 2 { } }", 10, api.ErrOrder)
	wantTextFault(t, "event a { version 1 { drop x; } }", 22, api.ErrName)
	wantTextFault(t, "event a { version 1 { add x: real; } }", 22, api.ErrName)
	wantTextFault(t, "event a", 7, api.ErrSyntax)
	wantText(t, `event e { version 1 { add who: text; } version 2 { split who at " " into first, last; } version 3 { retype last to uint; drop last; } }`, typed(
		ver(done(added(1)), cols(col("who", 1, 4))), ver(done(splitAt(1, " ", 2, 3)), cols(col("first", 2, 4), col("last", 3, 4))),
		ver(done(retyped(3, 5), dropped(3)), cols(col("first", 2, 4)))))
}

// P12.1: the steps

// base is a first version's steps: two texts, two uints, a bool, bytes and an int, of the tags 1 to 7.
func base() []api.StepDecl {
	return steps(add("t1", "text"), add("t2", "text"), add("u1", "uint"), add("u2", "uint"), add("b", "bool"), add("y", "bytes"), add("i", "int"))
}

func baseCols() []api.Column {
	return cols(col("t1", 1, 4), col("t2", 2, 4), col("u1", 3, 1), col("u2", 4, 1), col("b", 5, 3), col("y", 6, 5), col("i", 7, 2))
}

func baseVersion() api.Version {
	return ver(done(added(1), added(2), added(3), added(4), added(5), added(6), added(7)), baseCols())
}

// but is the columns of the base without those of some tags, and with others behind.
func but(without []int, more ...api.Column) []api.Column {
	return append(slices.DeleteFunc(baseCols(), func(c api.Column) bool { return slices.Contains(without, c.Tag) }), more...)
}

// wantDone looks at what steps behind the base become, in its own version (where they have no defaults) and in a later one.
func wantDone(t *testing.T, s []api.StepDecl, d []api.Step, behind []api.Column) {
	t.Helper()
	wantHistory(t, tree(base(), s), typed(baseVersion(), ver(d, behind)))
	wantHistory(t, tree(base(), nil, s, nil), typed(baseVersion(), ver(nil, baseCols()), ver(d, behind), ver(nil, behind)))
	if !slices.ContainsFunc(s, func(s api.StepDecl) bool { return s.Kind == api.StepAdd }) {
		wantHistory(t, tree(append(base(), s...)), typed(ver(append(baseVersion().Steps, d...), behind)))
	}
}

func TestEachStep(t *testing.T) {
	wantDone(t, nil, nil, baseCols())
	wantDone(t, steps(add("n", "uint", num(7))), done(addedAs(8, uintOf(7))), but(nil, col("n", 8, 1)))
	wantDone(t, steps(rename("u1", "n")), done(renamed(3)), cols(col("t1", 1, 4), col("t2", 2, 4), col("n", 3, 1), col("u2", 4, 1), col("b", 5, 3), col("y", 6, 5), col("i", 7, 2)))
	wantDone(t, steps(split("t1", ", ", "n", "m")), done(splitAt(1, ", ", 8, 9)), but([]int{1}, col("n", 8, 4), col("m", 9, 4)))
	wantDone(t, steps(join("t2", "t1", "; ", "n")), done(joined(2, 1, "; ", 8)), but([]int{1, 2}, col("n", 8, 4)))
	wantDone(t, steps(join("t1", "t2", "", "n")), done(joined(1, 2, "", 8)), but([]int{1, 2}, col("n", 8, 4)))
	wantDone(t, steps(retype("u1", "text")), done(retyped(3, 3)), cols(col("t1", 1, 4), col("t2", 2, 4), col("u1", 3, 4), col("u2", 4, 1), col("b", 5, 3), col("y", 6, 5), col("i", 7, 2)))
	wantDone(t, steps(drop("b")), done(dropped(5)), but([]int{5}))
}

func TestAddsOfEachKind(t *testing.T) {
	for k := 1; k <= 5; k++ {
		wantHistory(t, tree(steps(add("n", kinds[k]))), typed(ver(done(added(1)), cols(col("n", 1, k)))))
	}
	for _, row := range []struct {
		value []api.Node
		want  api.Value
	}{
		{nodes(num(0)), uintOf(0)}, {nodes(num(1<<64 - 1)), uintOf(1<<64 - 1)}, {nodes(num(1), num(2), num(3), op(api.ExMul), op(api.ExAdd)), uintOf(7)},
		{nodes(num(0)), intOf(0)}, {nodes(num(1<<63 - 1)), intOf(1<<63 - 1)}, {nodes(num(1<<63), op(api.ExNeg)), intOf(-1 << 63)}, {nodes(num(1), op(api.ExNeg)), intOf(-1)},
		{nodes(op(api.ExTrue)), boolOf(1)}, {nodes(op(api.ExFalse)), boolOf(0)},
		{nodes(text("")), textOf("")}, {nodes(text("é\x00\n")), textOf("é\x00\n")}, {nodes(text("ab"), num(2048), op(api.ExRep)), textOf(times("ab", 2048))}, {nodes(text("a"), text("b"), cat(2)), textOf("ab")},
		{nodes(text(""), op(api.ExHex)), bytesOf("")}, {nodes(text("00fF"), op(api.ExHex)), bytesOf("\x00\xff")}, {nodes(text("e9"), num(2048), op(api.ExRep), op(api.ExHex)), bytesOf(times("\xe9", 2048))},
	} {
		k := row.want.Kind
		wantDone(t, steps(add("n", kinds[k], row.value...)), done(addedAs(8, row.want)), but(nil, col("n", 8, k)))
	}
}

func TestNamesThatComeFree(t *testing.T) {
	v := uintOf(1)
	n := func(name string) api.StepDecl { return add(name, "uint", num(1)) }
	wantDone(t, steps(rename("u1", "n"), n("u1")), done(renamed(3), addedAs(8, v)), cols(col("t1", 1, 4), col("t2", 2, 4), col("n", 3, 1), col("u2", 4, 1), col("b", 5, 3), col("y", 6, 5), col("i", 7, 2), col("u1", 8, 1)))
	wantDone(t, steps(rename("u1", "n"), rename("n", "u1")), done(renamed(3), renamed(3)), baseCols())
	wantDone(t, steps(rename("u1", "n"), rename("u2", "u1"), rename("n", "u2")), done(renamed(3), renamed(4), renamed(3)), cols(col("t1", 1, 4), col("t2", 2, 4), col("u2", 3, 1), col("u1", 4, 1), col("b", 5, 3), col("y", 6, 5), col("i", 7, 2)))
	wantDone(t, steps(drop("u1"), n("u1")), done(dropped(3), addedAs(8, v)), but([]int{3}, col("u1", 8, 1)))
	wantDone(t, steps(drop("u1"), rename("u2", "u1"), n("u2")), done(dropped(3), renamed(4), addedAs(8, v)), cols(col("t1", 1, 4), col("t2", 2, 4), col("u1", 4, 1), col("b", 5, 3), col("y", 6, 5), col("i", 7, 2), col("u2", 8, 1)))
	wantDone(t, steps(drop("t1"), n("t1")), done(dropped(1), addedAs(8, v)), but([]int{1}, col("t1", 8, 1)))
	// of a split and a join the names that they take
	wantDone(t, steps(split("t1", ",", "t1", "n")), done(splitAt(1, ",", 8, 9)), but([]int{1}, col("t1", 8, 4), col("n", 9, 4)))
	wantDone(t, steps(split("t1", ",", "n", "t1")), done(splitAt(1, ",", 8, 9)), but([]int{1}, col("n", 8, 4), col("t1", 9, 4)))
	wantDone(t, steps(join("t1", "t2", ",", "t1")), done(joined(1, 2, ",", 8)), but([]int{1, 2}, col("t1", 8, 4)))
	wantDone(t, steps(join("t1", "t2", ",", "t2")), done(joined(1, 2, ",", 8)), but([]int{1, 2}, col("t2", 8, 4)))
	wantDone(t, steps(split("t1", ",", "n", "m"), n("t1")), done(splitAt(1, ",", 8, 9), addedAs(10, v)), but([]int{1}, col("n", 8, 4), col("m", 9, 4), col("t1", 10, 1)))
	wantDone(t, steps(join("t1", "t2", ",", "n"), rename("u1", "t2")), done(joined(1, 2, ",", 8), renamed(3)), cols(col("t2", 3, 1), col("u2", 4, 1), col("b", 5, 3), col("y", 6, 5), col("i", 7, 2), col("n", 8, 4)))
	for _, s := range [][]api.StepDecl{ // and those that don't
		steps(rename("u1", "n"), drop("u1")), steps(drop("u1"), drop("u1")), steps(rename("u1", "n"), rename("u1", "m")), steps(drop("u1"), retype("u1", "text")),
		steps(split("t1", ",", "n", "m"), drop("t1")), steps(join("t1", "t2", ",", "n"), drop("t1")), steps(join("t1", "t2", ",", "n"), drop("t2")), steps(split("t1", ",", "n", "m"), split("t1", ",", "o", "p")),
	} {
		s[1].At = 77
		wantFault(t, tree(base(), s), 77, api.ErrName)
		wantFault(t, tree(append(base(), s...)), 77, api.ErrName)
	}
}

func TestNamesOfKindsAndWordsThatAreNames(t *testing.T) {
	wantHistory(t, events(event("uint", version(1, add("uint", "uint"), add("text", "text"), add("event_", "bool")))), types(api.Type{Name: "uint", Versions: []api.Version{
		ver(done(added(1), added(2), added(3)), cols(col("uint", 1, 1), col("text", 2, 4), col("event_", 3, 3)))}}))
	for _, name := range []string{"num", "real", "Uint", "UINT", "uint_", "u", "string", "byte", "Text", "a", times("u", 64)} {
		s := add("n", name)
		s.At = 31
		wantFault(t, tree(steps(s)), 31, api.ErrName)
		s.Value = nodes(num(1))
		wantFault(t, tree(base(), steps(s)), 31, api.ErrName)
		r := retype("u1", name)
		r.At = 32
		wantFault(t, tree(base(), steps(r)), 32, api.ErrName)
	}
}

func TestRetypeBetweenAllKinds(t *testing.T) {
	for from := 1; from <= 5; from++ {
		for to := 1; to <= 5; to++ {
			r := retype("n", kinds[to])
			r.At = 9
			first := steps(add("n", kinds[from]))
			number := conversions[[2]int{from, to}]
			if number == 0 {
				wantFault(t, tree(first, steps(r)), 9, api.ErrConv)
				wantFault(t, tree(append(first, r)), 9, api.ErrConv)
				continue
			}
			begin := ver(done(added(1)), cols(col("n", 1, from)))
			wantHistory(t, tree(first, steps(r)), typed(begin, ver(done(retyped(1, number)), cols(col("n", 1, to)))))
			wantHistory(t, tree(append(first, r)), typed(ver(done(added(1), retyped(1, number)), cols(col("n", 1, to)))))
			for last := 1; last <= 5; last++ {
				if next := conversions[[2]int{to, last}]; next > 0 {
					wantHistory(t, tree(first, steps(r, retype("n", kinds[last]))), typed(begin, ver(done(retyped(1, number), retyped(1, next)), cols(col("n", 1, last)))))
				}
			}
		}
	}
}

// P12.1: the steps' faults

// refusal is a step and its first fault, at the step.
type refusal struct {
	step api.StepDecl
	err  api.Errno
}

// later are steps behind the base in a later version; q is no column. Where there are several faults the first of the chapter's order is told.
func later() []refusal {
	one, bad := num(1), text("\xff")
	return []refusal{
		{add("u1", "uint", one), api.ErrTaken}, {add("n", "num", one), api.ErrName}, {add("n", "uint"), api.ErrValue},
		{add("u1", "num", one), api.ErrTaken}, {add("u1", "uint"), api.ErrTaken}, {add("u1", "num"), api.ErrTaken}, {add("u1", "text", bad), api.ErrTaken}, {add("u1", "uint", text("")), api.ErrTaken},
		{add("n", "num"), api.ErrName}, {add("n", "num", bad), api.ErrName}, {add("n", "num", text("x"), op(api.ExNeg)), api.ErrName},
		{rename("q", "n"), api.ErrName}, {rename("u1", "t1"), api.ErrTaken}, {rename("u1", "u1"), api.ErrTaken}, {rename("q", "u1"), api.ErrName}, {rename("q", "q"), api.ErrName},
		{split("q", ",", "n", "m"), api.ErrName}, {split("u1", ",", "n", "m"), api.ErrKinds}, {split("y", ",", "n", "m"), api.ErrKinds}, {split("b", ",", "n", "m"), api.ErrKinds}, {split("i", ",", "n", "m"), api.ErrKinds},
		{split("t1", "", "n", "m"), api.ErrValue}, {split("t1", "\xff", "n", "m"), api.ErrValue}, {split("t1", ",\xc3", "n", "m"), api.ErrValue},
		{split("t1", ",", "t2", "n"), api.ErrTaken}, {split("t1", ",", "n", "t2"), api.ErrTaken}, {split("t1", ",", "n", "n"), api.ErrTaken}, {split("t1", ",", "t1", "t1"), api.ErrTaken}, {split("t1", ",", "u1", "t1"), api.ErrTaken}, {split("t1", ",", "t1", "u1"), api.ErrTaken}, {split("t1", ",", "u1", "u1"), api.ErrTaken}, {split("t1", ",", "u1", "u2"), api.ErrTaken},
		{split("q", "", "n", "m"), api.ErrName}, {split("q", "\xff", "n", "m"), api.ErrName}, {split("q", ",", "t1", "m"), api.ErrName}, {split("q", ",", "n", "n"), api.ErrName}, {split("q", ",", "q", "q"), api.ErrName},
		{split("u1", "", "n", "m"), api.ErrKinds}, {split("u1", "\xff", "n", "m"), api.ErrKinds}, {split("u1", ",", "t1", "m"), api.ErrKinds}, {split("u1", ",", "n", "n"), api.ErrKinds},
		{split("t1", "", "t2", "m"), api.ErrValue}, {split("t1", "\xff", "n", "t2"), api.ErrValue}, {split("t1", "", "n", "n"), api.ErrValue},
		{join("q", "t2", ",", "n"), api.ErrName}, {join("t1", "q", ",", "n"), api.ErrName}, {join("t1", "t1", ",", "n"), api.ErrTaken}, {join("u1", "t2", ",", "n"), api.ErrKinds}, {join("t1", "u2", ",", "n"), api.ErrKinds},
		{join("t1", "y", ",", "n"), api.ErrKinds}, {join("b", "t1", ",", "n"), api.ErrKinds}, {join("t1", "i", ",", "n"), api.ErrKinds}, {join("t1", "t2", "\xff", "n"), api.ErrValue}, {join("t1", "t2", "a\x80", "n"), api.ErrValue}, {join("t1", "t2", ",", "u1"), api.ErrTaken},
		{join("q", "q", ",", "n"), api.ErrName}, {join("q", "u1", ",", "n"), api.ErrName}, {join("u1", "q", ",", "n"), api.ErrName}, {join("q", "t2", "\xff", "n"), api.ErrName}, {join("t1", "q", "\xff", "n"), api.ErrName}, {join("q", "t2", ",", "u1"), api.ErrName}, {join("t1", "q", ",", "u1"), api.ErrName}, {join("t1", "q", ",", "q"), api.ErrName},
		{join("u1", "u1", ",", "n"), api.ErrTaken}, {join("t1", "t1", "\xff", "n"), api.ErrTaken}, {join("t1", "t1", ",", "u1"), api.ErrTaken}, {join("u1", "u2", ",", "n"), api.ErrKinds},
		{join("u1", "t2", "\xff", "n"), api.ErrKinds}, {join("t1", "u2", "\xff", "n"), api.ErrKinds}, {join("u1", "t2", ",", "u2"), api.ErrKinds}, {join("t1", "u2", ",", "u1"), api.ErrKinds}, {join("t1", "t2", "\xff", "u1"), api.ErrValue},
		{retype("q", "uint"), api.ErrName}, {retype("u1", "num"), api.ErrName}, {retype("u1", "bytes"), api.ErrConv}, {retype("u1", "uint"), api.ErrConv}, {retype("q", "num"), api.ErrName}, {retype("t1", "text"), api.ErrConv}, {retype("y", "num"), api.ErrName},
		{drop("q"), api.ErrName},
	}
}

// first are those of a first version alone.
func first() []refusal {
	one, bad := num(1), text("\xff")
	return []refusal{
		{add("n", "uint", one), api.ErrValue}, {add("n", "uint", text("")), api.ErrValue}, {add("n", "text", bad), api.ErrValue}, {add("n", "uint", text("x"), op(api.ExNeg)), api.ErrValue},
		{add("u1", "uint"), api.ErrTaken}, {add("n", "num"), api.ErrName}, {add("u1", "num"), api.ErrTaken}, {add("u1", "uint", one), api.ErrTaken}, {add("n", "num", one), api.ErrName}, {add("u1", "num", one), api.ErrTaken},
	}
}

// around are steps that aren't refused, to stand ahead of and behind one that is.
func around() []api.StepDecl {
	return steps(rename("u2", "r1"), rename("r1", "r2"), retype("b", "uint"), rename("r2", "u2"))
}

func placed(s []api.StepDecl, from int) []api.StepDecl {
	s = slices.Clone(s)
	for i := range s {
		s[i].At = from + i
		s[i].Value = slices.Clone(s[i].Value)
		for j := range s[i].Value {
			s[i].Value[j].At = 1000*from + 100*i + j
		}
	}
	return s
}

func TestEachFaultOfEachStep(t *testing.T) {
	for _, r := range later() {
		s := placed(steps(r.step), 7)
		wantFault(t, tree(base(), s), 7, r.err)
		wantFault(t, tree(base(), nil, nil, s), 7, r.err)
		both := placed(slices.Concat(around(), steps(r.step), steps(drop("q"))), 20)
		wantFault(t, tree(base(), both), 24, r.err)
		wantFault(t, events(event("d", version(1)), tree(base(), both).Events[0], event("d", version(1))), 24, r.err)
		if r.step.Kind != api.StepAdd {
			wantFault(t, tree(append(placed(base(), 50), s...)), 7, r.err)
		}
	}
	for _, r := range first() {
		wantFault(t, tree(append(placed(base(), 50), placed(steps(r.step), -3)...)), -3, r.err)
		wantFault(t, tree(append(placed(base(), 50), placed(append(around(), r.step, drop("q")), 70)...)), 74, r.err)
	}
}

func TestTheFirstOfTwoSteps(t *testing.T) {
	all := later()
	for i, a := range all {
		b := all[(i*7+3)%len(all)]
		wantFault(t, tree(base(), placed(steps(a.step, b.step), 60)), 60, a.err)
		wantFault(t, tree(base(), placed(steps(b.step), 60), placed(steps(a.step), 70)), 60, b.err)
	}
}

func TestFaultsOfDefaults(t *testing.T) {
	deep := nodes(num(1))
	for range 99 {
		deep = append(deep, op(api.ExNeg))
	}
	rows := []struct {
		kind  string
		value []api.Node
		place int
		err   api.Errno
	}{
		{"uint", nodes(text("a")), 0, api.ErrKinds}, {"int", nodes(op(api.ExTrue)), 0, api.ErrKinds}, {"bool", nodes(num(1)), 0, api.ErrKinds}, {"text", nodes(num(1)), 0, api.ErrKinds}, {"bytes", nodes(text("00")), 0, api.ErrKinds},
		{"uint", nodes(num(1), op(api.ExNeg)), 1, api.ErrValue}, {"int", nodes(num(1 << 63)), 0, api.ErrValue}, {"text", nodes(text("\xff")), 0, api.ErrValue},
		{"uint", nodes(num(1), num(2), op(api.ExSub)), 2, api.ErrValue}, {"uint", nodes(num(1<<64-1), num(1), op(api.ExAdd), num(1), op(api.ExSub)), 2, api.ErrValue},
		{"uint", nodes(num(1), text("x"), op(api.ExAdd), num(1), op(api.ExSub)), 2, api.ErrKinds}, {"text", nodes(text("ab"), num(2049), op(api.ExRep)), 2, api.ErrLong}, {"text", nodes(text(times("a", 4097))), 0, api.ErrLong},
		{"text", nodes(num(1), text("a"), text("b"), num(1), op(api.ExNeg), op(api.ExRep), cat(3)), 5, api.ErrValue}, {"bytes", nodes(text("0"), op(api.ExHex)), 1, api.ErrValue}, {"bytes", nodes(text("0x"), op(api.ExHex)), 1, api.ErrValue},
		{"uint", nodes(text("0"), op(api.ExHex), op(api.ExLen)), 1, api.ErrValue}, {"text", deep, 99, api.ErrKinds}, {"uint", deep, 99, api.ErrValue},
	}
	for _, row := range rows {
		for _, at := range []int{0, 5, -1 << 63, 1<<63 - 1} {
			s := placed(steps(add("n", row.kind, row.value...)), 9)
			s[0].Value[row.place].At = at
			if _, place, err := expr.Value(s[0].Value, kindNumber(row.kind)); place != row.place || err != row.err {
				t.Fatal(shown(s), place, err)
			}
			wantFault(t, tree(base(), s), at, row.err)
			wantFault(t, tree(base(), nil, append(placed(around(), 30), append(s, drop("q"))...)), at, row.err)
			wantFault(t, tree(append(base(), s...)), 9, api.ErrValue) // version 1 has none, whatever it is
		}
	}
}

func TestEverySmallStep(t *testing.T) {
	names := []string{"t1", "t2", "u1", "y", "q", "r"}
	told := map[api.Errno]int{}
	try := func(s api.StepDecl) {
		s.At = 5
		told[wantPlain(t, tree(base(), steps(s)))]++
		told[wantPlain(t, tree(append(base(), s)))]++
	}
	for _, a := range names {
		try(drop(a))
		for _, b := range names {
			try(rename(a, b))
			for _, c := range names {
				for _, sep := range []string{"", ",", "\xff"} {
					try(split(a, sep, b, c))
					try(join(a, b, sep, c))
				}
			}
		}
		for _, k := range []string{"uint", "int", "bool", "text", "bytes", "num"} {
			try(retype(a, k))
			for _, value := range [][]api.Node{nil, nodes(num(1)), nodes(text("x")), nodes(text("\xff")), nodes(op(api.ExTrue)), nodes(text("ff"), op(api.ExHex)), nodes(num(1), op(api.ExNeg))} {
				try(add(a, k, value...))
			}
		}
	}
	for _, err := range []api.Errno{api.OK, api.ErrName, api.ErrTaken, api.ErrKinds, api.ErrValue, api.ErrConv} {
		if told[err] < 10 {
			t.Errorf("%v", told)
		}
	}
}

func TestTreesByChance(t *testing.T) {
	r := lcg(1)
	told := map[api.Errno]int{}
	for _, faults := range []int{0, 2, 10} {
		for range 5000 {
			told[wantPlain(t, r.tree(faults))]++
		}
	}
	for _, err := range []api.Errno{api.OK, api.ErrName, api.ErrTaken, api.ErrKinds, api.ErrValue, api.ErrConv, api.ErrOrder, api.ErrLong} {
		if told[err] < 30 {
			t.Errorf("%d: %v", err, told)
		}
	}
}

func TestTreesWithFaultsByChance(t *testing.T) {
	r := lcg(2)
	told := map[api.Errno]int{}
	for range 20000 {
		s := clonedTree(r.tree(1))
		for range 1 + r.below(2) {
			r.disturb(&s)
		}
		told[wantPlain(t, s)]++
	}
	for _, err := range []api.Errno{api.OK, api.ErrArg, api.ErrName, api.ErrTaken, api.ErrKinds, api.ErrValue, api.ErrConv, api.ErrOrder} {
		if told[err] < 20 {
			t.Errorf("%d: %v", err, told)
		}
	}
}

// P12.1: tags

func TestTagsGoOn(t *testing.T) {
	n := nodes(num(1))
	v := uintOf(1)
	wantHistory(t, tree(steps(add("a", "uint"), drop("a"), add("a", "text"), add("b", "text")), steps(drop("b"), add("c", "uint", n...)), nil, steps(add("b", "uint", n...)),
		steps(split("a", ",", "x", "y"), drop("x"), drop("y")), steps(add("z", "uint", n...), retype("z", "text"), rename("z", "y"), add("x", "uint", n...)), steps(drop("x"), drop("y")), steps(add("last", "uint", n...))),
		typed(ver(done(added(1), dropped(1), added(2), added(3)), cols(col("a", 2, 4), col("b", 3, 4))), ver(done(dropped(3), addedAs(4, v)), cols(col("a", 2, 4), col("c", 4, 1))), ver(nil, cols(col("a", 2, 4), col("c", 4, 1))),
			ver(done(addedAs(5, v)), cols(col("a", 2, 4), col("c", 4, 1), col("b", 5, 1))), ver(done(splitAt(2, ",", 6, 7), dropped(6), dropped(7)), cols(col("c", 4, 1), col("b", 5, 1))),
			ver(done(addedAs(8, v), retyped(8, 3), renamed(8), addedAs(9, v)), cols(col("c", 4, 1), col("b", 5, 1), col("y", 8, 4), col("x", 9, 1))), ver(done(dropped(9), dropped(8)), cols(col("c", 4, 1), col("b", 5, 1))),
			ver(done(addedAs(10, v)), cols(col("c", 4, 1), col("b", 5, 1), col("last", 10, 1)))))
	wantHistory(t, tree(steps(add("a", "text"), add("b", "text"), join("b", "a", "", "c"), split("c", ",", "b", "a"), join("b", "a", ",", "a")), steps(add("b", "uint", n...))),
		typed(ver(done(added(1), added(2), joined(2, 1, "", 3), splitAt(3, ",", 4, 5), joined(4, 5, ",", 6)), cols(col("a", 6, 4))), ver(done(addedAs(7, v)), cols(col("a", 6, 4), col("b", 7, 1)))))
	// each type has tags of its own
	e := tree(steps(add("a", "uint"), add("b", "uint"))).Events[0]
	f := e
	f.Name = "f"
	two := ver(done(added(1), added(2)), cols(col("a", 1, 1), col("b", 2, 1)))
	wantHistory(t, events(e, f), types(api.Type{Name: "e", Versions: []api.Version{two}}, api.Type{Name: "f", Versions: []api.Version{two}}))
}

func TestColumnsStandInTheOrderOfTheirTags(t *testing.T) {
	wantHistory(t, tree(steps(add("z", "uint"), add("y", "uint"), add("x", "uint"), rename("z", "n"), rename("x", "a"), drop("y"), add("b", "uint"), rename("n", "z"))),
		typed(ver(done(added(1), added(2), added(3), renamed(1), renamed(3), dropped(2), added(4), renamed(1)), cols(col("z", 1, 1), col("a", 3, 1), col("b", 4, 1)))))
	var s []api.StepDecl
	var d []api.Step
	var c []api.Column
	for i := range 300 {
		s, d = append(s, add(fmt.Sprintf("n%d", 1000-i), "uint")), append(d, added(i+1))
	}
	for i := range 300 { // every third goes, every second gets a name from the other end
		switch tag := (i*77)%300 + 1; {
		case tag%3 == 0:
			s, d = append(s, drop(fmt.Sprintf("n%d", 1001-tag))), append(d, dropped(tag))
		case tag%2 == 0:
			s, d = append(s, rename(fmt.Sprintf("n%d", 1001-tag), fmt.Sprintf("a%d", tag))), append(d, renamed(tag))
		}
	}
	for tag := 1; tag <= 300; tag++ {
		switch {
		case tag%3 == 0:
		case tag%2 == 0:
			c = append(c, col(fmt.Sprintf("a%d", tag), tag, 1))
		default:
			c = append(c, col(fmt.Sprintf("n%d", 1001-tag), tag, 1))
		}
	}
	wantHistory(t, tree(s, nil), typed(ver(d, c), ver(nil, c)))
}

// full are the steps of a first version that use all tags but so many; x, y and w are texts, and there behind it.
func full(left int) []api.StepDecl {
	s := steps(add("x", "text"), add("y", "text"), add("w", "text"))
	next := 4
	for ; next+1 <= 65535-left; next += 2 {
		s = append(s, split("w", ",", "w", fmt.Sprintf("v%d", next)))
	}
	if next <= 65535-left {
		s = append(s, add("v", "text"))
	}
	return s
}

func TestTheGreatestTag(t *testing.T) {
	all := []api.StepDecl{
		add("n", "uint", num(1)), split("w", ",", "w", "n"), split("w", ",", "n", "m"), join("x", "y", ",", "n"), join("x", "y", ",", "x"), // those that need a tag
		rename("x", "n"), retype("x", "bytes"), drop("x"), drop("w"),
	}
	needs := []int{1, 2, 2, 1, 1, 0, 0, 0, 0}
	for left := range 4 {
		s := full(left)
		for i, step := range all {
			step.At = 5
			later := tree(s, steps(step))
			if needs[i] > left {
				wantFault(t, later, 5, api.ErrMany)
			} else {
				h, _, err := check.History(later)
				if err != api.OK || !check.Valid(h) {
					t.Fatalf("%d left, %+v: %d", left, step, err)
				}
				for place, tag := range madeBy(h.Types[0].Versions[1].Steps[0]) {
					if tag != 65535-left+1+place {
						t.Errorf("%d left, %+v: %+v", left, step, h.Types[0].Versions[1])
					}
				}
			}
		}
	}
	// what stands ahead of ErrMany, and what behind
	for _, r := range []refusal{
		{add("x", "uint", num(1)), api.ErrTaken}, {add("n", "num", num(1)), api.ErrName}, {add("n", "uint"), api.ErrMany}, {add("n", "uint", text("")), api.ErrMany},
		{split("q", ",", "n", "m"), api.ErrName}, {split("w", "", "n", "m"), api.ErrValue}, {split("w", ",", "n", "x"), api.ErrTaken}, {split("w", ",", "x", "n"), api.ErrTaken}, {split("w", ",", "n", "n"), api.ErrTaken},
		{join("q", "x", ",", "n"), api.ErrName}, {join("x", "x", ",", "n"), api.ErrTaken}, {join("x", "y", "\xff", "n"), api.ErrValue}, {join("x", "y", ",", "w"), api.ErrTaken},
	} {
		r.step.At = 6
		wantFault(t, tree(full(0), steps(r.step)), 6, r.err)
	}
	wantFault(t, tree(append(full(0), placed(steps(add("n", "uint", num(1))), 7)...)), 7, api.ErrMany)
	wantFault(t, tree(append(full(0), placed(steps(add("n", "uint")), 7)...)), 7, api.ErrMany)
	wantFault(t, tree(append(full(1), placed(steps(split("w", ",", "w", "n")), 7)...)), 7, api.ErrMany)
	wantFault(t, tree(full(0), steps(drop("x"), drop("y")), nil, placed(steps(add("n", "uint", num(1))), 8)), 8, api.ErrMany) // what is gone gives no tag back
	// another type has all of them
	e := tree(full(0)).Events[0]
	f := e
	f.Name = "f"
	if h, _, err := check.History(events(e, f)); err != api.OK || !same(types(h.Types[0]), types(api.Type{Name: "e", Versions: h.Types[1].Versions})) {
		t.Errorf("%d", err)
	}
}

func TestAsManyColumnsAsTags(t *testing.T) {
	var s []api.StepDecl
	want := ver(nil, nil)
	for tag := 1; tag <= 65535; tag++ {
		name := fmt.Sprintf("n%d", tag)
		s = append(s, add(name, "bool"))
		want.Steps, want.Columns = append(want.Steps, added(tag)), append(want.Columns, col(name, tag, 3))
	}
	wantHistory(t, tree(s), typed(want))
	more := add("more", "bool")
	more.At = 1
	wantFault(t, tree(append(s, more)), 1, api.ErrMany)
}

// P12.1: events, versions, limits

func TestNamesOfEvents(t *testing.T) {
	at := func(name string, at int) api.EventDecl {
		return api.EventDecl{Name: name, At: at, Versions: []api.VersionDecl{version(1)}}
	}
	none := []api.Version{{}}
	wantHistory(t, events(), api.History{})
	wantHistory(t, api.Schema{Events: []api.EventDecl{}}, api.History{})
	wantHistory(t, events(at("b", 3), at("a", 2), at("B", 1)), types(api.Type{Name: "b", Versions: none}, api.Type{Name: "a", Versions: none}, api.Type{Name: "B", Versions: none}))
	wantFault(t, events(at("b", 3), at("a", 2), at("b", 1), at("a", 0)), 1, api.ErrTaken)
	wantFault(t, events(at("b", 3), at("b", -9)), -9, api.ErrTaken)
	bad := at("b", 5)
	bad.Versions[0].Number, bad.Versions[0].At = 2, 6
	wantFault(t, events(at("b", 3), bad), 5, api.ErrTaken) // ahead of what stands in it
	wantFault(t, events(bad, at("b", 3)), 6, api.ErrOrder)
	bad.Name = "c"
	wantFault(t, events(at("b", 3), bad), 6, api.ErrOrder)
}

func TestNumbersOfVersions(t *testing.T) {
	at := func(numbers ...uint64) api.Schema {
		e := event("e")
		for i, n := range numbers {
			e.Versions = append(e.Versions, api.VersionDecl{Number: n, At: 10 + i})
		}
		return events(e)
	}
	wantHistory(t, at(1, 2, 3), typed(api.Version{}, api.Version{}, api.Version{}))
	for _, row := range []struct {
		numbers []uint64
		at      int
	}{
		{[]uint64{0}, 10}, {[]uint64{2}, 10}, {[]uint64{1<<64 - 1}, 10}, {[]uint64{1 << 32}, 10}, {[]uint64{1<<32 + 1}, 10}, {[]uint64{1, 1}, 11}, {[]uint64{1, 3}, 11}, {[]uint64{1, 0}, 11}, {[]uint64{1, 1<<32 + 2}, 11}, {[]uint64{1, 1<<63 + 2}, 11},
		{[]uint64{1, 2, 2}, 12}, {[]uint64{1, 2, 4}, 12}, {[]uint64{1, 2, 1}, 12}, {[]uint64{1, 2, 3, 5, 4}, 13}, {[]uint64{2, 1}, 10}, {[]uint64{0, 1, 2}, 10},
	} {
		wantFault(t, at(row.numbers...), row.at, api.ErrOrder)
	}
	both := at(1, 3, 3)
	both.Events[0].Versions[1].Steps = placed(steps(drop("q")), 4)
	wantFault(t, both, 11, api.ErrOrder) // ahead of its steps
	both.Events[0].Versions[0].Steps = placed(steps(drop("q")), 4)
	wantFault(t, both, 4, api.ErrName)
	wantFault(t, events(event("d", version(1)), event("e", version(1), api.VersionDecl{Number: 3, At: 77})), 77, api.ErrOrder) // each type counts by itself
	wantHistory(t, events(event("d", version(1), version(2)), event("e", version(1))), types(api.Type{Name: "d", Versions: make([]api.Version, 2)}, api.Type{Name: "e", Versions: make([]api.Version, 1)}))
}

func TestAsManyTypesAsThereCanBe(t *testing.T) {
	var s api.Schema
	var want api.History
	for i := range 1024 {
		name := fmt.Sprintf("e%d", i)
		s.Events = append(s.Events, api.EventDecl{Name: name, Versions: []api.VersionDecl{version(1, add("x", "uint"))}, At: i})
		want.Types = append(want.Types, api.Type{Name: name, Versions: []api.Version{ver(done(added(1)), cols(col("x", 1, 1)))}})
	}
	wantHistory(t, s, want)
	for _, name := range []string{"other", "e7"} { // ahead of the name that is taken, and of what stands in it
		more := api.Schema{Events: append(slices.Clip(s.Events), api.EventDecl{Name: name, Versions: []api.VersionDecl{version(9)}, At: 5000}, api.EventDecl{Name: "e1", Versions: []api.VersionDecl{version(1)}})}
		wantFault(t, more, 5000, api.ErrMany)
	}
	s.Events[1023].Name = "e3"
	wantFault(t, s, 1023, api.ErrTaken)
}

func TestAsManyVersionsAsThereCanBe(t *testing.T) {
	e := event("e")
	for i := range 65536 {
		e.Versions = append(e.Versions, api.VersionDecl{Number: uint64(i + 1), At: i})
	}
	wantHistory(t, events(e), types(api.Type{Name: "e", Versions: make([]api.Version, 65536)}))
	f := e
	f.Name = "f"
	wantHistory(t, events(e, f), types(api.Type{Name: "e", Versions: make([]api.Version, 65536)}, api.Type{Name: "f", Versions: make([]api.Version, 65536)}))
	for _, number := range []uint64{65537, 65536, 1} {
		f.Versions = append(slices.Clip(e.Versions), api.VersionDecl{Number: number, Steps: placed(steps(drop("q")), 3), At: -77})
		wantFault(t, events(e, f), -77, api.ErrMany)
	}
	f.Versions = slices.Clone(e.Versions)
	f.Versions[65535].Number = 65537
	wantFault(t, events(f), 65535, api.ErrOrder)
}

func TestAsManyStepsAsThereCanBe(t *testing.T) {
	s := steps(add("a", "uint"))
	d := done(added(1))
	for len(s) < 65536 {
		s, d = append(s, rename("a", "b"), rename("b", "a")), append(d, renamed(1), renamed(1))
	}
	s, d = s[:65536], d[:65536]
	b := cols(col("b", 1, 1))
	wantHistory(t, tree(s), typed(ver(d, b)))
	wantHistory(t, tree(s[:1], s[1:40001], nil, s[40001:]), typed(ver(d[:1], cols(col("a", 1, 1))), ver(d[1:40001], cols(col("a", 1, 1))), ver(nil, cols(col("a", 1, 1))), ver(d[40001:], b)))
	e := tree(s).Events[0]
	f := e
	f.Name = "f"
	wantHistory(t, events(e, f), types(api.Type{Name: "e", Versions: []api.Version{ver(d, b)}}, api.Type{Name: "f", Versions: []api.Version{ver(d, b)}}))
	for _, more := range []api.StepDecl{rename("b", "a"), drop("q"), add("b", "num")} { // ahead of its own faults
		more := placed(steps(more), 99)
		wantFault(t, tree(append(slices.Clip(s), more...)), 99, api.ErrMany)
		wantFault(t, tree(s, more), 99, api.ErrMany)
		wantFault(t, tree(s[:65000], nil, s[65000:], nil, more), 99, api.ErrMany)
		f.Versions = []api.VersionDecl{version(1, s...), version(2, more...)}
		wantFault(t, events(e, f), 99, api.ErrMany)
	}
	wantFault(t, tree(append(slices.Clone(s[:65535]), placed(steps(drop("q")), 98)...)), 98, api.ErrName)
}

func TestAsManyCellsAsThereCanBe(t *testing.T) {
	var s []api.StepDecl
	first := ver(nil, nil)
	for tag := 1; tag <= 1024; tag++ {
		name := fmt.Sprintf("n%d", tag)
		s = append(s, add(name, "uint"))
		first.Steps, first.Columns = append(first.Steps, added(tag)), append(first.Columns, col(name, tag, 1))
	}
	some := api.EventDecl{Name: "e"}
	want := api.Type{Name: "e"}
	for i := range 1024 {
		some.Versions = append(some.Versions, api.VersionDecl{Number: uint64(i + 1), At: i})
		want.Versions = append(want.Versions, ver(nil, first.Columns))
	}
	some.Versions[0].Steps, want.Versions[0].Steps = s, first.Steps
	wantHistory(t, events(some), types(want))
	// nothing more, but what has no columns
	empty := api.Type{Name: "f", Versions: []api.Version{{}}}
	wantHistory(t, events(some, event("f", version(1))), types(want, empty))
	f := event("f", version(1), version(2, add("a", "uint", num(1))))
	f.Versions[1].At = 50
	wantFault(t, events(some, f), 50, api.ErrMany)
	f.Versions[1].Steps = placed(steps(add("a", "uint", num(1)), drop("q")), 60)
	wantFault(t, events(some, f), 61, api.ErrName) // its steps come first
	f.Versions[1].Steps = placed(steps(add("a", "uint", num(1)), drop("a")), 60)
	wantHistory(t, events(some, f), types(want, api.Type{Name: "f", Versions: []api.Version{{}, ver(done(addedAs(1, uintOf(1)), dropped(1)), nil)}}))
	f.Versions[1].Steps = placed(steps(add("a", "uint", num(1))), 60)
	f.Versions = append(f.Versions, api.VersionDecl{Number: 9, At: 51})
	wantFault(t, events(some, f, event("e", version(1))), 50, api.ErrMany) // and it stands ahead of the next version
	// one more in the last version, or one fewer and then one more
	more := slices.Clone(some.Versions)
	more[1023].Steps = steps(add("more", "uint", num(1)))
	wantFault(t, events(api.EventDecl{Name: "e", Versions: more}), 1023, api.ErrMany)
	more[1023].Steps = steps(drop("n1"))
	e := api.EventDecl{Name: "e", Versions: more}
	want.Versions = slices.Clone(want.Versions)
	want.Versions[1023] = ver(done(dropped(1)), first.Columns[1:])
	wantHistory(t, events(e, event("f", version(1, add("a", "uint")))), types(want, api.Type{Name: "f", Versions: []api.Version{ver(done(added(1)), cols(col("a", 1, 1)))}}))
	g := event("f", version(1, add("a", "uint"), add("b", "uint")))
	g.Versions[0].At = 52
	wantFault(t, events(e, g), 52, api.ErrMany)
	wantFault(t, events(e, event("f", version(1, add("a", "uint")), api.VersionDecl{Number: 2, At: 53})), 53, api.ErrMany)
}

// P12.1: what isn't a tree

// wantNoTree looks that what is no tree is told as such, ahead of all other faults.
func wantNoTree(t *testing.T, s api.Schema) {
	t.Helper()
	s = clonedTree(s)
	new(lcg).number(&s)
	wantFault(t, s, 0, api.ErrArg)
	bad := event("z", api.VersionDecl{Number: 2, At: 3, Steps: placed(steps(drop("q")), 4)})
	wantFault(t, events(append([]api.EventDecl{bad, bad}, s.Events...)...), 0, api.ErrArg)
	wantFault(t, events(append(slices.Clone(s.Events), bad)...), 0, api.ErrArg)
}

// everyStep is a step of each kind, with and without a default.
func everyStep() []api.StepDecl {
	return steps(add("n", "uint"), add("n", "uint", num(1)), rename("u1", "n"), split("t1", ",", "n", "m"), join("t1", "t2", ",", "n"), retype("u1", "text"), drop("u1"))
}

// wantNoStep looks that a step makes a tree none, wherever it stands.
func wantNoStep(t *testing.T, s api.StepDecl) {
	t.Helper()
	wantNoTree(t, tree(steps(s)))
	wantNoTree(t, tree(base(), steps(s)))
	wantNoTree(t, tree(base(), steps(drop("q"), s, drop("q")), nil))
}

func TestEventsThatAreNone(t *testing.T) {
	wantNoTree(t, events(event("a")))
	wantNoTree(t, events(api.EventDecl{Name: "a", Versions: []api.VersionDecl{}}))
	wantNoTree(t, events(event("a", version(1)), event("b")))
	wantNoTree(t, events(event("b"), event("a", version(1))))
	wantNoTree(t, events(api.EventDecl{}))
	for _, name := range badNames() {
		wantNoTree(t, events(event(name, version(1))))
		wantNoTree(t, events(event("a", version(1)), event(name, version(1)), event("b", version(1))))
	}
}

func badNames() []string {
	return append([]string{"", " ", "1", "1a", "a b", " a", "a ", "a-b", "a.b", "a\n", "a\x00", "\x00", "é", "aé", "a\xff", `"a"`, "a;", "{", "-", "\u212a", times("n", 65), times("n", 100000)}, words...)
}

func TestNamesThatAreNone(t *testing.T) {
	for _, s := range everyStep() {
		for _, at := range []*string{&s.A, &s.B, &s.C, &s.Type} {
			was := *at
			for _, name := range badNames() {
				if *at = name; was != "" {
					wantNoStep(t, s)
				}
			}
			*at = was
		}
	}
	for _, name := range []string{"_", "Z", "a1", "A_9z", "__", "Event", "EVENT", "events", "ad", "tru", "uint", times("n", 64), "_" + times("9", 63)} {
		wantHistory(t, events(event(name, version(1, add(name, "uint")))), types(api.Type{Name: name, Versions: []api.Version{ver(done(added(1)), cols(col(name, 1, 1)))}}))
		if name != "uint" {
			wantFault(t, tree(placed(steps(add("a", name)), 3)), 3, api.ErrName)
		}
		wantHistory(t, tree(steps(add("a", "text"), split("a", ",", name, "b"), rename(name, "c"), join("c", "b", ",", name), rename(name, "x"))), typed(ver(done(added(1), splitAt(1, ",", 2, 3), renamed(2), joined(2, 3, ",", 4), renamed(4)), cols(col("x", 4, 4)))))
		wantHistory(t, tree(steps(add("a", "text"), split("a", ",", "b", name), rename(name, "c"), rename("b", name), retype(name, "int"), drop(name))), typed(ver(done(added(1), splitAt(1, ",", 2, 3), renamed(3), renamed(2), retyped(2, 6), dropped(2)), cols(col("c", 3, 4)))))
	}
}

func TestFieldsThatAStepDoesNotHave(t *testing.T) {
	for _, s := range everyStep() {
		for _, at := range []*string{&s.B, &s.C, &s.Sep, &s.Type} {
			if *at != "" {
				continue
			}
			for _, some := range []string{"x", "uint", ",", " ", "\x00", "to", s.A, "\xff"} {
				*at = some
				wantNoStep(t, s)
			}
			*at = ""
		}
		for _, kind := range []int{0, 7, 8, -1, -6, 256 + 1, 1<<32 + 6, 1<<63 - 1, -1 << 63} {
			other := s
			other.Kind = kind
			wantNoStep(t, other)
		}
		for kind := 1; kind <= 6; kind++ {
			other := s
			other.Kind = kind
			wantPlain(t, tree(base(), steps(other)))
		}
		if s.Kind == api.StepAdd {
			continue
		}
		for _, value := range [][]api.Node{nodes(num(1)), nodes(op(api.ExTrue)), nodes(op(0)), nodes(op(api.ExAdd)), make([]api.Node, 2)} {
			other := s
			other.Value = value
			wantNoStep(t, other)
		}
		s.Value = []api.Node{} // a list of nothing is none
		if h, _, err := check.History(tree(base(), steps(s))); err != api.OK || !check.Valid(h) {
			t.Errorf("%+v: %d", s, err)
		}
	}
	for kind := range 9 {
		wantNoStep(t, api.StepDecl{Kind: kind})
	}
	first := add("n", "uint")
	first.Value = []api.Node{}
	wantHistory(t, tree(steps(first)), typed(ver(done(added(1)), cols(col("n", 1, 1)))))
	wantFault(t, tree(base(), placed(steps(first), 8)), 8, api.ErrValue)
}

func TestNodesThatAreNone(t *testing.T) {
	deep := func(depth int, n api.Node) []api.Node {
		out := nodes(num(1))
		for range depth - 1 {
			out = append(out, n)
		}
		return out
	}
	right := nodes(num(1))
	for _, bad := range [][]api.Node{
		nodes(op(0)), nodes(op(13)), nodes(op(-1)), nodes(op(1 << 32)), nodes(op(256 + 1)), nodes(op(api.ExNeg)), nodes(op(api.ExAdd)), nodes(op(api.ExSub)), nodes(op(api.ExMul)), nodes(op(api.ExRep)), nodes(op(api.ExLen)), nodes(op(api.ExHex)),
		nodes(num(1), op(api.ExAdd)), nodes(num(1), op(api.ExRep)), nodes(num(1), num(2)), nodes(num(1), num(2), op(api.ExNeg)), nodes(num(1), num(2), num(3), op(api.ExAdd)), nodes(num(1), op(0)), nodes(op(0), num(1)),
		nodes(cat(0)), nodes(cat(1)), nodes(num(1), cat(0)), nodes(num(1), cat(-1)), nodes(num(1), cat(2)), nodes(num(1), num(2), cat(1)), nodes(num(1), cat(1<<63-1)), nodes(num(1), cat(-1<<63)),
		nodes(api.Node{Op: api.ExNumber, N: 1}), nodes(api.Node{Op: api.ExNumber, Text: "x"}), nodes(api.Node{Op: api.ExText, N: -1}), nodes(api.Node{Op: api.ExText, Num: 1}), nodes(api.Node{Op: api.ExTrue, Num: 1}), nodes(api.Node{Op: api.ExFalse, Text: "x"}),
		nodes(num(1), api.Node{Op: api.ExNeg, N: 1}), nodes(num(1), api.Node{Op: api.ExLen, Num: 1}), nodes(num(1), api.Node{Op: api.ExCat, N: 1, Text: "x"}), nodes(num(1), api.Node{Op: api.ExCat, N: 1, Num: 1}), nodes(num(1), num(2), api.Node{Op: api.ExAdd, Text: "x"}),
		deep(101, op(api.ExNeg)), deep(101, cat(1)), deep(102, op(api.ExLen)), deep(1000, op(api.ExHex)), append(deep(101, op(api.ExNeg)), num(1), op(api.ExAdd)), append(nodes(num(1)), append(deep(100, op(api.ExNeg)), op(api.ExAdd))...),
	} {
		wantNoStep(t, add("n", "uint", bad...))
		wantNoStep(t, add("u1", "num", bad...)) // ahead of its other faults
		wantNoTree(t, tree(base(), steps(add("n", "uint", right...), add("m", "uint", bad...))))
		wantNoTree(t, tree(base(), steps(add("n", "uint", bad...), add("m", "uint", right...))))
	}
	wantHistory(t, tree(base(), steps(add("n", "int", deep(100, op(api.ExNeg))...))), typed(baseVersion(), ver(done(addedAs(8, intOf(-1))), but(nil, col("n", 8, 2)))))
}

// P12.1: Text

func TestFaultsOfLayerNineComeFirst(t *testing.T) {
	heads := []string{ // each with a fault of its own, or none
		"event a{version 1{}}", "event a{version 2{}}", "event a{version 1{}}event a{version 1{}}", "event a{version 1{drop q;}}", "event a{version 1{add x:num;}}", "event a{version 1{}version 2{add q:uint=\"a\";}}",
	}
	for _, head := range heads {
		for _, tail := range []string{
			"?", "\"", "\"a\n\"", "\"\\q\"", "18446744073709551616", times("n", 65), "event", "event b", "event b{}", "event b{version}", "event b{version 1{", "event b{version 1{drop to;}}", "}", "x", "1",
			"event b{version 1{add x:uint=;}}", "event b{version 1{add x:uint=1 2;}}", "event b{version 1{add x:uint=cat();}}", "event b{version 1{add x:uint=" + times("-", 100) + "1;}}", "event b{version 1{add x:uint=" + times("(", 101) + "1;}}", "event event{version 1{}}", times(" ", 1<<20),
		} {
			s := head + tail
			_, at, err := parse.Schema(s)
			if err == api.OK {
				t.Fatal(show(s))
			}
			wantTextFault(t, s, at, err)
		}
	}
	for _, row := range []struct {
		s   string
		at  int
		err api.Errno
	}{
		{times(" ", 1<<20+1), 0, api.ErrLong}, {"event a{version 2{}} ?", 21, api.ErrByte}, {"event a{version 2{}} \"x", 21, api.ErrQuote}, {"event a{version 2{}} \"\\q", 22, api.ErrEscape}, {"event a{version 2{}} 99999999999999999999", 21, api.ErrValue},
		{"event a{version 2{}} x", 21, api.ErrSyntax}, {"event a{version 2{add x:uint=" + times("(", 101) + "1", 129, api.ErrDepth}, {"event a{version 1{add x:uint=" + times("-", 100) + "1;}}", 29, api.ErrDepth}, {"event a{version 2{}", 19, api.ErrSyntax},
	} {
		wantTextFault(t, row.s, row.at, row.err)
	}
	wantText(t, "", api.History{})
	wantText(t, times(" ", 1<<20), api.History{})
	wantText(t, " # a remark", api.History{})
}

func TestPlacesInATextWithBlanks(t *testing.T) {
	wantTextFault(t, "# one\n event a {\n  version 1 { add x : uint ; }\n  version 2 { add y : uint = 1 - 2 ; } }", 79, api.ErrValue)
	wantTextFault(t, "# one\n event a {\n  version 1 { add x : uint ; }\n  version 2 { add y : uint = ( ( 1 ) ) + \"\" ; } }", 87, api.ErrKinds)
	wantTextFault(t, "# one\n event a {\n  version 1 { add x : uint ; }\n  version 3 { add y : uint = 1 ; } }", 50, api.ErrOrder)
	wantTextFault(t, "event a {\n version 1 { } }\n  event a { version 1 { } }", 29, api.ErrTaken)
}

func TestTextsByChance(t *testing.T) {
	r := lcg(3)
	told := map[api.Errno]int{}
	for range 4000 {
		s, _ := print.Schema(r.tree(r.below(2) * 5))
		if r.below(4) == 0 {
			at := r.below(len(s) + 1)
			s = s[:at] + oneOf(&r, " ", "}", ";", "x", "\"", "?", "1") + s[at:]
		}
		tree, at, err := parse.Schema(s)
		var want api.History
		if err == api.OK {
			want, at, err = plainHistory(tree)
		}
		if told[err]++; err == api.OK {
			wantText(t, s, want)
		} else {
			wantTextFault(t, s, at, err)
		}
	}
	for _, err := range []api.Errno{api.OK, api.ErrSyntax, api.ErrName, api.ErrTaken, api.ErrOrder} {
		if told[err] < 20 {
			t.Errorf("%v", told)
		}
	}
}
