package parse_test

import (
	"slices"
	"strings"
	"sync"
	"testing"

	"stratum/api"
	"stratum/lex"
	"stratum/parse"
)

// The examples of the chapter

func TestSchemasOfTheChapter(t *testing.T) {
	wantSchema(t, "")
	wantSchema(t, "event a{version 1{}}", event("a", 0, version(1, 8)))
	wantSchemaFault(t, "event a{}", 8, api.ErrSyntax)
	wantSchemaFault(t, "event event{version 1{}}", 6, api.ErrSyntax)
	wantSchemaFault(t, "event a{version 1{}", 19, api.ErrSyntax)
	wantSchema(t, `event a{version 1{add x:uint;}version 2{add y:text="n";split y at "," into p,q;}}`, event("a", 0,
		version(1, 8, api.StepDecl{Kind: api.StepAdd, A: "x", Type: "uint", At: 18}),
		version(2, 30,
			api.StepDecl{Kind: api.StepAdd, A: "y", Type: "text", Value: []api.Node{textNode("n", 51)}, At: 40},
			api.StepDecl{Kind: api.StepSplit, A: "y", B: "p", C: "q", Sep: ",", At: 55})))
	wantSchemaFault(t, "event a", 7, api.ErrSyntax) // DOC.md's ninth
}

func TestValuesOfTheChapter(t *testing.T) {
	wantValue(t, "1-2+3*-4", numNode(1, 0), numNode(2, 2), node(api.ExSub, 1), numNode(3, 4), numNode(4, 7), node(api.ExNeg, 6), node(api.ExMul, 5), node(api.ExAdd, 3))
	wantValue(t, `cat("a","b")`, textNode("a", 4), textNode("b", 8), catNode(2, 0))
	wantValueFault(t, "(1", 2, api.ErrSyntax)
	wantValueFault(t, "1 2", 2, api.ErrSyntax)
	wantValueFault(t, "cat()", 4, api.ErrSyntax)
	wantValueFault(t, "1+", 2, api.ErrSyntax)
	wantValue(t, times("(", 100)+"1"+times(")", 100), numNode(1, 100))
	wantValueFault(t, times("(", 101)+"1"+times(")", 101), 100, api.ErrDepth)
	if got, _, err := parse.Value(times("-", 99) + "1"); len(got) != 100 || err != api.OK {
		t.Errorf("%d nodes, %d", len(got), err)
	}
	wantValueFault(t, times("-", 100)+"1", 0, api.ErrDepth)
	wantValueFault(t, times("-", 101)+"1", 100, api.ErrDepth)
	if got, _, err := parse.Value("1" + times("+1", 99)); len(got) != 199 || err != api.OK {
		t.Errorf("%d nodes, %d", len(got), err)
	}
	wantValueFault(t, "1"+times("+1", 100), 199, api.ErrDepth)
}

// P9.1: the tree

func TestEventsAndVersions(t *testing.T) {
	for _, s := range []string{"", " ", "\n", "# event a { }", "# a\n#\n"} {
		wantSchema(t, s)
	}
	wantSchema(t, "event a{version 1{}version 2{}version 2{}version 0{}}", event("a", 0, version(1, 8), version(2, 19), version(2, 30), version(0, 41)))
	wantSchema(t, "event a{version 1{}}event a{version 7{}}event b{version 18446744073709551615{}}",
		event("a", 0, version(1, 8)), event("a", 20, version(7, 28)), event("b", 40, version(1<<64-1, 48)))
	wantSchema(t, "  event\tb\n{ version 007 { } }", event("b", 2, version(7, 12)))
	wantSchemaFault(t, "event a{version 18446744073709551616{}}", 16, api.ErrValue)
}

func TestStepsAndTheirFields(t *testing.T) {
	const ahead = "event a{version 1{"
	for s, want := range map[string]api.StepDecl{
		"add x:uint;":                      {Kind: api.StepAdd, A: "x", Type: "uint"},
		"add x:uint=1;":                    {Kind: api.StepAdd, A: "x", Type: "uint", Value: []api.Node{numNode(1, 11)}},
		"add x:uint=18446744073709551615;": {Kind: api.StepAdd, A: "x", Type: "uint", Value: []api.Node{numNode(1<<64-1, 11)}},
		"add x:no_kind=-0;":                {Kind: api.StepAdd, A: "x", Type: "no_kind", Value: []api.Node{numNode(0, 15), node(api.ExNeg, 14)}},
		"rename x to y;":                   {Kind: api.StepRename, A: "x", B: "y"},
		"rename x to x;":                   {Kind: api.StepRename, A: "x", B: "x"},
		`split x at "," into y,z;`:         {Kind: api.StepSplit, A: "x", B: "y", C: "z", Sep: ","},
		`split x at "" into y,y;`:          {Kind: api.StepSplit, A: "x", B: "y", C: "y"},
		`split x at "\xff\n" into y,z;`:    {Kind: api.StepSplit, A: "x", B: "y", C: "z", Sep: "\xff\n"},
		`join x,y with "; " into z;`:       {Kind: api.StepJoin, A: "x", B: "y", C: "z", Sep: "; "},
		`join x,x with "" into x;`:         {Kind: api.StepJoin, A: "x", B: "x", C: "x"},
		`join x,y with "event" into z;`:    {Kind: api.StepJoin, A: "x", B: "y", C: "z", Sep: "event"},
		"retype x to uint;":                {Kind: api.StepRetype, A: "x", Type: "uint"},
		"drop x;":                          {Kind: api.StepDrop, A: "x"},
	} {
		want.At = len(ahead)
		want.Value = movedNodes(want.Value, func(at int) int { return at + len(ahead) })
		wantSchema(t, ahead+s+"}}", event("a", 0, version(1, 8, want)))
		again := want
		again.At += len(s)
		again.Value = movedNodes(want.Value, func(at int) int { return at + len(s) })
		wantSchema(t, ahead+s+s+"}}", event("a", 0, version(1, 8, want, again)))
	}
}

func TestWrittenSchemas(t *testing.T) {
	r := lcg(91)
	for range 4000 {
		for _, w := range []*writer{tight(), loose(&r)} {
			tree, values := r.anySchema()
			w.schema(tree, values)
			wantSchema(t, w.out.String(), tree.Events...)
			wantPlainSchema(t, w.out.String())
		}
	}
}

func TestLongNames(t *testing.T) {
	long := times("n", 63)
	s := "event " + long + "a{version 1{add " + long + "b:" + long + "c;rename " + long + "b to " + long + "d;}}"
	wantSchema(t, s, event(long+"a", 0, version(1, 71,
		api.StepDecl{Kind: api.StepAdd, A: long + "b", Type: long + "c", At: 81},
		api.StepDecl{Kind: api.StepRename, A: long + "b", B: long + "d", At: 215})))
	wantSchemaFault(t, "event "+long+"aa{version 1{}}", 6, api.ErrValue)
}

// P9.1: words and names

// everyStep has every place of the grammar but those of an expression.
const everyStep = `event a{version 1{}}event b{version 1{add c:d;}version 2{add e:f=1;rename g to h;split i at "," into j,k;join l,m with "," into n;retype o to p;drop q;}}`

func TestWordsOfTheGrammar(t *testing.T) {
	var found []string
	for _, s := range strings.Split(grammar, `"`) {
		if s != "" && s[0] >= 'a' && s[0] <= 'z' && !slices.Contains(found, s) {
			found = append(found, s)
		}
	}
	if !slices.Equal(slices.Sorted(slices.Values(found)), slices.Sorted(slices.Values(words))) {
		t.Errorf("%v, not %v in any order", found, words)
	}
}

func TestWordsWhereANameIsWanted(t *testing.T) {
	wantPlainSchema(t, everyStep)
	tokens, _, _ := lex.Lex(everyStep)
	for _, k := range tokens {
		if k.Kind != api.TokName || slices.Contains(words, k.Text) {
			continue
		}
		for _, word := range words {
			wantSchemaFault(t, everyStep[:k.At]+word+everyStep[k.End:], k.At, api.ErrSyntax)
		}
		for _, name := range []string{"events", "event_", "Event", "EVENT", "_event", "event1", "adds", "ad", "t", "toto", "trues", "hexx", "uint", "text"} {
			wantPlainSchema(t, everyStep[:k.At]+name+everyStep[k.End:])
			if _, _, err := parse.Schema(everyStep[:k.At] + name + everyStep[k.End:]); err != api.OK {
				t.Errorf("%s as a name at %d: %d", name, k.At, err)
			}
		}
	}
}

func TestWordsWhereAnotherIsWanted(t *testing.T) {
	tokens, _, _ := lex.Lex(everyStep)
	for _, k := range tokens {
		if k.Kind != api.TokName || !slices.Contains(words, k.Text) {
			continue
		}
		for _, other := range append([]string{k.Text + "s", k.Text[1:] + "x", strings.ToUpper(k.Text), `"` + k.Text + `"`}, words...) {
			s := everyStep[:k.At] + other + everyStep[k.End:]
			wantPlainSchema(t, s)
			begins := slices.Contains(words[2:8], k.Text) && slices.Contains(words[2:8], other)
			if other != k.Text && !begins {
				wantSchemaFault(t, s, k.At, api.ErrSyntax)
			}
		}
	}
	for _, word := range words[:12] {
		wantValueFault(t, word, 0, api.ErrSyntax)
		wantValueFault(t, "1+"+word, 2, api.ErrSyntax)
		wantValueFault(t, "cat("+word+")", 4, api.ErrSyntax)
		wantValueFault(t, "1 "+word, 2, api.ErrSyntax)
	}
	wantValueFault(t, "True", 0, api.ErrSyntax)
	wantValueFault(t, `"cat"(1)`, 5, api.ErrSyntax)
	wantValueFault(t, "cats(1)", 0, api.ErrSyntax)
}

func TestTextsAreNoWordsAndNoMarks(t *testing.T) {
	tokens, _, _ := lex.Lex(everyStep)
	for _, k := range tokens[:len(tokens)-1] {
		if k.Kind == api.TokText {
			continue
		}
		s := everyStep[:k.At] + `"` + everyStep[k.At:k.End] + `"` + everyStep[k.End:]
		if strings.Contains(everyStep[:k.At], "=") && k.Kind == api.TokNumber && k.Num == 1 {
			wantPlainSchema(t, s) // the expression
			continue
		}
		wantSchemaFault(t, s, k.At, api.ErrSyntax)
	}
	for s, place := range map[string]int{`"("1)`: 3, `"-"1`: 3, `1"+"1`: 1, `1"*"1`: 1, `cat"("1)`: 3, `cat(1","2)`: 5, `(1")"`: 2, `"len"(1)`: 5} {
		wantValueFault(t, s, place, api.ErrSyntax)
	}
}

// P9.1: each token at each place of the grammar

// someTokens are tokens of each kind.
func someTokens() []string {
	return slices.Concat(words, []string{"nm", "7", `"t"`, "{", "}", "(", ")", ":", ";", ",", "=", "+", "-", "*"})
}

func TestEachTokenAtEachPlace(t *testing.T) {
	texts := []string{
		everyStep,
		`event a { version 1 { add b : c = 1 - - ( 2 * true ) + cat ( "a" , "b" , hex ( "c" ) ) ; add d : e = cat ( false ) * rep ( "a" , len ( "b" ) ) ; } }`,
	}
	seen := map[*part]bool{}
	for _, s := range texts {
		tokens, _, _ := lex.Lex(s)
		plainSyntax("text", tokens, seen)
		for _, k := range tokens {
			wantPlainSchema(t, s[:k.At])
			wantPlainSchema(t, s[:k.At]+" "+s[k.End:])
			for _, other := range someTokens() {
				wantPlainSchema(t, s[:k.At]+" "+other+" "+s[k.End:])
				wantPlainSchema(t, s[:k.At]+" "+other+" "+s[k.At:])
			}
		}
	}
	for name, rule := range plainRules {
		rule.each(func(p *part) {
			if p.how == 't' && !seen[p] {
				t.Errorf("no text has the %s of %s", p.is, name)
			}
		})
	}
}

func (p *part) each(give func(*part)) {
	give(p)
	for _, k := range p.parts {
		k.each(give)
	}
}

// everyBeginning goes on from each beginning that the grammar has, token by token: each of these tokens behind it, and the end.
func everyBeginning(rule string, pieces []string, length int, give func(string)) {
	give("")
	begins := []string{""}
	for range length {
		var longer []string
		for _, s := range begins {
			for _, p := range pieces {
				next := s + " " + p
				give(next)
				tokens, _, _ := lex.Lex(next)
				if plainSyntax(rule, tokens[:len(tokens)-1], map[*part]bool{}) == len(tokens)-1 {
					longer = append(longer, next)
				}
			}
		}
		begins = longer
	}
}

func TestEveryShortSchema(t *testing.T) {
	everyBeginning("text", someTokens(), 15, func(s string) { wantPlainSchema(t, s) })
}

func TestEveryShortValue(t *testing.T) {
	everyBeginning("expr", someTokens(), 5, func(s string) { wantPlainValue(t, s) })
	everyBeginning("expr", []string{"1", "-", "*", "+", "(", ")", ",", "cat", "len", "rep"}, 7, func(s string) { wantPlainValue(t, s) })
}

func TestPlainOnesAgree(t *testing.T) {
	everyBeginning("expr", someTokens(), 4, func(s string) {
		tokens, _, _ := lex.Lex(s)
		_, place, err := plainValue(s)
		stop := plainSyntax("expr", tokens, map[*part]bool{})
		if (err == api.OK) != (stop == len(tokens)) || err != api.OK && tokens[stop].At != place {
			t.Errorf("%s: %d at %d, not %d", show(s), err, place, stop)
		}
	})
}

func TestFaultsOfTheSyntax(t *testing.T) {
	for s, place := range map[string]int{
		"event": 5, "event ": 6, "event a{": 8, "event a{version": 15, "event a{version 1": 17, "event a{version 1{": 18, "event a{version 1{}": 19,
		"a": 0, "1": 0, `"event"`: 0, "{": 0, "}": 0, ";": 0, "version 1{}": 0, "add x:uint;": 0, "true": 0, "Event a{version 1{}}": 0,
		"event 1{version 1{}}": 6, `event "a"{version 1{}}`: 6, "event {version 1{}}": 6, "event a version 1{}}": 8, "event a(version 1{}}": 7,
		"event a{{version 1{}}": 8, "event a{version a{}}": 16, `event a{version "1"{}}`: 16, "event a{version -1{}}": 16, "event a{version{}}": 15,
		"event a{version 1 2{}}": 18, "event a{version 1{}add x:uint;}": 19, "event a{version 1{};}": 19, "event a{add x:uint;}": 8,
		"event a{version 1{}}event": 25, "event a{version 1{}}}": 20, "event a{version 1{}};": 20, "event a{version 1{}}version 2{}": 20, "event a{version 1{}} a": 21,
		"event a{version 1{}}event b{}": 28, "event a{version 1{event b{}}}": 18, "event a{version 1{version 2{}}}": 18,
		"event a{version 1{add}}": 21, "event a{version 1{add x}}": 23, "event a{version 1{add x uint;}}": 24, "event a{version 1{add x:;}}": 24,
		"event a{version 1{add x:uint}}": 28, "event a{version 1{add x:uint=}}": 29, "event a{version 1{add x:uint=;}}": 29, "event a{version 1{add x:uint=y;}}": 29,
		"event a{version 1{add x:uint 1;}}": 29, "event a{version 1{add x:uint==1;}}": 29, "event a{version 1{add x:uint=1 2;}}": 31, "event a{version 1{add x,y:uint;}}": 23,
		"event a{version 1{;}}": 18, "event a{version 1{drop x;;}}": 25, "event a{version 1{drop x}}": 24, "event a{version 1{drop x,y;}}": 24, "event a{version 1{drop;}}": 22,
		"event a{version 1{rename x y;}}": 27, "event a{version 1{rename x into y;}}": 27, "event a{version 1{rename x to;}}": 29, `event a{version 1{rename x to "y";}}`: 30,
		"event a{version 1{retype x;}}": 26, "event a{version 1{retype x to 1;}}": 30, `event a{version 1{retype x to y=1;}}`: 31,
		"event a{version 1{split x into y,z;}}": 26, "event a{version 1{split x at y into y,z;}}": 29, `event a{version 1{split x at "," y,z;}}`: 33, `event a{version 1{split x at "," into y;}}`: 39,
		`event a{version 1{split x at "," into y,z,w;}}`: 41, `event a{version 1{split x at "," into y z;}}`: 40, `event a{version 1{split x,y at "," into y,z;}}`: 25,
		`event a{version 1{join x with "," into z;}}`: 25, `event a{version 1{join x,y at "," into z;}}`: 27, "event a{version 1{join x,y into z;}}": 27, `event a{version 1{join x,y with "," to z;}}`: 36,
		`event a{version 1{join x,y with "," into z,w;}}`: 42, `event a{version 1{join x,y,z with "," into z;}}`: 26,
	} {
		wantSchemaFault(t, s, place, api.ErrSyntax)
		wantPlainSchema(t, s)
	}
}

func TestFaultsOfTheTokensComeFirst(t *testing.T) {
	for _, f := range []struct {
		s   string
		at  int
		err api.Errno
	}{{"?", 0, api.ErrByte}, {`"a\q"`, 2, api.ErrEscape}, {`"a`, 0, api.ErrQuote}, {times("n", 65), 0, api.ErrValue}, {"99999999999999999999", 0, api.ErrValue}} {
		for _, ahead := range []string{"", "event a{version 1{}}", "event event ", "} ", "event a{version 1{add x:uint=1+*", "1 2 ", "event a{version 1{add x:uint=" + times("(", 101)} {
			wantSchemaFault(t, ahead+" "+f.s, len(ahead)+1+f.at, f.err)
			got, place, err := parse.Value(ahead + " " + f.s)
			if len(got) != 0 || place != len(ahead)+1+f.at || err != f.err {
				t.Errorf("Value(%s): %d at %d", show(ahead+" "+f.s), err, place)
			}
		}
		if f.err != api.ErrQuote {
			for _, behind := range []string{" event event", " }", " event a{}", " (", " 1 2"} {
				wantSchemaFault(t, f.s+behind, f.at, f.err)
				wantValueFault(t, f.s+behind, f.at, f.err)
				wantSchemaFault(t, "event a{}"+f.s+behind, 9+f.at, f.err)
			}
		}
	}
}

// P9.1: expressions

func TestLeaves(t *testing.T) {
	for s, want := range map[string]api.Node{
		"0": numNode(0, 0), "7": numNode(7, 0), "007": numNode(7, 0), "18446744073709551615": numNode(1<<64-1, 0), `""`: textNode("", 0), `"a\n\xff"`: textNode("a\n\xff", 0),
		`"true"`: textNode("true", 0), `"-"`: textNode("-", 0), `"1"`: textNode("1", 0), "true": node(api.ExTrue, 0), "false": node(api.ExFalse, 0),
	} {
		wantValue(t, s, want)
		want.At = 2
		wantValue(t, " \n"+s+" ", want)
		wantValue(t, "(("+s+"))", want)
		wantSchema(t, "event a{version 1{add x:y="+s+";}}", event("a", 0, version(1, 8,
			api.StepDecl{Kind: api.StepAdd, A: "x", Type: "y", Value: movedNodes([]api.Node{want}, func(int) int { return 26 }), At: 18})))
	}
	for _, s := range []string{"", " ", "# 1", "x", "uint", "_", ")", "*1", "+1", "=1", ";", ":", ",", "{1}", "()", "-", "--", "- -", "(", "(-)", "1 1", `1"a"`, `"a""b"`, "true false", "1,2", "1;", "1)", "1=1", "true(1)", "1(2)"} {
		wantPlainValue(t, s)
		if _, _, err := parse.Value(s); err != api.ErrSyntax {
			t.Errorf("Value(%s): %d", show(s), err)
		}
	}
}

func TestOperators(t *testing.T) {
	wantValue(t, "1+2", numNode(1, 0), numNode(2, 2), node(api.ExAdd, 1))
	wantValue(t, "1-2", numNode(1, 0), numNode(2, 2), node(api.ExSub, 1))
	wantValue(t, "1*2", numNode(1, 0), numNode(2, 2), node(api.ExMul, 1))
	wantValue(t, "-1", numNode(1, 1), node(api.ExNeg, 0))
	wantValue(t, "- -1", numNode(1, 3), node(api.ExNeg, 2), node(api.ExNeg, 0))
	wantValue(t, "1--2", numNode(1, 0), numNode(2, 3), node(api.ExNeg, 2), node(api.ExSub, 1))
	wantValue(t, "1+-2", numNode(1, 0), numNode(2, 3), node(api.ExNeg, 2), node(api.ExAdd, 1))
	wantValue(t, "1 - 2 + 3", numNode(1, 0), numNode(2, 4), node(api.ExSub, 2), numNode(3, 8), node(api.ExAdd, 6))
	wantValue(t, "1 + 2 - 3", numNode(1, 0), numNode(2, 4), node(api.ExAdd, 2), numNode(3, 8), node(api.ExSub, 6))
	wantValue(t, "1*2*3", numNode(1, 0), numNode(2, 2), node(api.ExMul, 1), numNode(3, 4), node(api.ExMul, 3))
	wantValue(t, "1+2*3", numNode(1, 0), numNode(2, 2), numNode(3, 4), node(api.ExMul, 3), node(api.ExAdd, 1))
	wantValue(t, "1*2+3", numNode(1, 0), numNode(2, 2), node(api.ExMul, 1), numNode(3, 4), node(api.ExAdd, 3))
	wantValue(t, "1*2-3*4", numNode(1, 0), numNode(2, 2), node(api.ExMul, 1), numNode(3, 4), numNode(4, 6), node(api.ExMul, 5), node(api.ExSub, 3))
	wantValue(t, "-1*2", numNode(1, 1), node(api.ExNeg, 0), numNode(2, 3), node(api.ExMul, 2))
	wantValue(t, "-1+2", numNode(1, 1), node(api.ExNeg, 0), numNode(2, 3), node(api.ExAdd, 2))
	wantValue(t, "2*-1", numNode(2, 0), numNode(1, 3), node(api.ExNeg, 2), node(api.ExMul, 1))
	wantValue(t, `true+"a"*false`, node(api.ExTrue, 0), textNode("a", 5), node(api.ExFalse, 9), node(api.ExMul, 8), node(api.ExAdd, 4))
}

func TestBrackets(t *testing.T) {
	wantValue(t, "(1)", numNode(1, 1))
	wantValue(t, "1-(2+3)", numNode(1, 0), numNode(2, 3), numNode(3, 5), node(api.ExAdd, 4), node(api.ExSub, 1))
	wantValue(t, "(1-2)+3", numNode(1, 1), numNode(2, 3), node(api.ExSub, 2), numNode(3, 6), node(api.ExAdd, 5))
	wantValue(t, "(1+2)*3", numNode(1, 1), numNode(2, 3), node(api.ExAdd, 2), numNode(3, 6), node(api.ExMul, 5))
	wantValue(t, "1*(2*3)", numNode(1, 0), numNode(2, 3), numNode(3, 5), node(api.ExMul, 4), node(api.ExMul, 1))
	wantValue(t, "-(1+2)", numNode(1, 2), numNode(2, 4), node(api.ExAdd, 3), node(api.ExNeg, 0))
	wantValue(t, "-(-(1))", numNode(1, 4), node(api.ExNeg, 2), node(api.ExNeg, 0))
	wantValueFault(t, "(1))", 3, api.ErrSyntax)
	wantValueFault(t, "((1)", 4, api.ErrSyntax)
	wantValueFault(t, "(1,2)", 2, api.ErrSyntax)
	wantValueFault(t, "()", 1, api.ErrSyntax)
	wantValueFault(t, "(1;)", 2, api.ErrSyntax)
}

func TestCalls(t *testing.T) {
	wantValue(t, "cat(1)", numNode(1, 4), catNode(1, 0))
	wantValue(t, "cat(1,2,3)", numNode(1, 4), numNode(2, 6), numNode(3, 8), catNode(3, 0))
	wantValue(t, " rep(1,2)", numNode(1, 5), numNode(2, 7), node(api.ExRep, 1))
	wantValue(t, "len ( 1 )", numNode(1, 6), node(api.ExLen, 0))
	wantValue(t, `hex("0f")`, textNode("0f", 4), node(api.ExHex, 0))
	wantValue(t, "cat(1+2,-3)", numNode(1, 4), numNode(2, 6), node(api.ExAdd, 5), numNode(3, 9), node(api.ExNeg, 8), catNode(2, 0))
	wantValue(t, "rep(len(1),hex(2))", numNode(1, 8), node(api.ExLen, 4), numNode(2, 15), node(api.ExHex, 11), node(api.ExRep, 0))
	wantValue(t, "cat(cat(1,2),cat(3))", numNode(1, 8), numNode(2, 10), catNode(2, 4), numNode(3, 17), catNode(1, 13), catNode(2, 0))
	wantValue(t, "-len(1)*cat(2)", numNode(1, 5), node(api.ExLen, 1), node(api.ExNeg, 0), numNode(2, 12), catNode(1, 8), node(api.ExMul, 7))
	for s, place := range map[string]int{
		"cat": 3, "cat 1": 4, "cat(": 4, "cat()": 4, "cat(,1)": 4, "cat(1": 5, "cat(1,": 6, "cat(1,)": 6, "cat(1 2)": 6, "cat(1,,2)": 6, "cat(1))": 6, "cat(1;2)": 5, "cat+1": 3,
		"rep": 3, "rep()": 4, "rep(1)": 5, "rep(1,)": 6, "rep(1,2,3)": 7, "rep(1,2,)": 7, "rep(1,2": 7, "rep(1 2)": 6, "rep 1": 4, "rep(,1)": 4,
		"len": 3, "len()": 4, "len(1,2)": 5, "len(1,)": 5, "len(1": 5, "len 1": 4, "len(,)": 4, "len(1)(2)": 6,
		"hex": 3, "hex()": 4, "hex(1,2)": 5, "hex(1,)": 5, "hex(1": 5, "hex 1": 4, "hex{1}": 3,
		"cat(rep(1),2)": 9, "len(cat())": 8, "rep(cat(1),len(2,3))": 16,
	} {
		wantValueFault(t, s, place, api.ErrSyntax)
	}
}

func TestACallOfManyKids(t *testing.T) {
	for _, n := range []int{100, 101, 255, 256, 257, 65536, (api.MaxText - len("cat(1)")) / 2} {
		var want []api.Node
		for i := range n + 1 {
			want = append(want, numNode(1, 4+2*i))
		}
		wantValue(t, "cat(1"+times(",1", n)+")", append(want, catNode(n+1, 0))...)
	}
}

func TestWrittenValues(t *testing.T) {
	r := lcg(92)
	for range 20000 {
		for _, w := range []*writer{tight(), loose(&r)} {
			want := w.expr(r.anyExpression(1+r.below(6)), asExpr)
			w.out.WriteString(w.stuff())
			wantValue(t, w.out.String(), want...)
			wantPlainValue(t, w.out.String())
		}
	}
}

// P9.1: levels

// levels are ways to open one level more, and to shut it; the one without an end is shut behind its factor.
var levels = []struct{ open, shut string }{
	{"(", ")"}, {"-", ""}, {"len(", ")"}, {"hex(", ")"}, {"cat(", ")"}, {"rep(", ",1)"},
	{"cat(1,", ")"}, {"rep(1,", ")"}, {"cat(1,", ",2)"}, {"(1+", ")"}, {"(1*", ")"}, {"(1+1*", "+1)"},
}

func TestLevelsOfEachKind(t *testing.T) {
	for _, l := range levels {
		open, shut := times(l.open, 100), times(l.shut, 100)
		at := len(open)
		for _, more := range []string{"(1)", "(", "()", "-1", "-", "-)", "len(1)", "len", "len(", "len)", "len len", "hex", "cat", "cat(1,", "cat()", "rep", "rep(1", "rep 1", "((", "--"} {
			wantValueFault(t, open+more, at, api.ErrDepth)
			wantValueFault(t, open+more+shut, at, api.ErrDepth)
			wantPlainValue(t, open+"1+"+more+shut)
			if l.shut != "" {
				wantValueFault(t, open+"1+"+more+shut, at+2, api.ErrDepth)
				wantValueFault(t, open+"1*"+more+shut, at+2, api.ErrDepth)
			}
		}
		for _, no := range []string{")", "*", "+", "", "x", ";", ",", "event", "{", "=", "to"} {
			wantValueFault(t, open+no, at, api.ErrSyntax)
		}
		for _, no := range []string{"1(", "1 len(1)", "1 1", "1;", "1}"} {
			wantPlainValue(t, open+no)
		}
		for _, n := range []int{98, 99, 100} {
			wantPlainValue(t, times(l.open, n)+"1"+times(l.shut, n))
			wantPlainValue(t, times(l.open, n)+"1-1"+times(l.shut, n))
		}
	}
	wantValue(t, times("(", 100)+"1-2"+times(")", 100), numNode(1, 100), numNode(2, 102), node(api.ExSub, 101))
	wantValueFault(t, times("(", 100)+"1(", 101, api.ErrSyntax) // this bracket may not stand there, and opens nothing
	wantValueFault(t, times("len(", 101), 400, api.ErrDepth)
	wantValueFault(t, times("len", 2), 0, api.ErrSyntax)
}

func TestLevelsMixed(t *testing.T) {
	r := lcg(93)
	for range 600 {
		var open strings.Builder
		shut := ""
		for range 100 {
			l := levels[r.below(len(levels))]
			if r.below(2) == 0 {
				l = levels[0]
			}
			open.WriteString(l.open)
			shut = l.shut + shut
		}
		for _, more := range []string{"(", "-", "len ", "cat(", "rep "} {
			wantValueFault(t, open.String()+more+"1"+shut, open.Len(), api.ErrDepth)
		}
		wantPlainValue(t, open.String()+"1"+shut)
	}
}

func TestLevelsShutAndOpenedAnew(t *testing.T) {
	for _, l := range levels {
		once := times(l.open, 90) + "1" + times(l.shut, 90)
		if strings.Contains(l.open, "+") || strings.Contains(l.open, "*") {
			once = times("(", 90) + l.open + "1" + l.shut + times(")", 90)
		}
		if _, place, err := parse.Value(once); err != api.OK {
			t.Fatalf("%s: %d at %d", show(once), err, place)
		}
		for _, s := range []string{once + "+" + once + "-" + once, once + "*" + once, "cat(" + once + times(","+once, 300) + ")", "rep(" + once + "," + once + ")", "(" + once + ")-(" + once + ")"} {
			wantPlainValue(t, s)
			if _, place, err := parse.Value(s); err != api.OK {
				t.Errorf("%s: %d at %d", show(s), err, place)
			}
		}
		step := "add x:uint=" + once + ";"
		wantPlainSchema(t, "event a{version 1{"+step+step+"}version 2{"+step+"}}event b{version 1{"+times(step, 50)+"}}")
	}
	wantPlainValue(t, "cat(1"+times(",-len(-(1))", 5000)+")")
	if got, place, err := parse.Value("cat(1" + times(",-len(-(1))", 5000) + ")"); len(got) != 20002 || err != api.OK {
		t.Errorf("%d nodes, %d at %d", len(got), err, place)
	}
	hundred := times("(", 100) + "1" + times(")", 100)
	wantPlainValue(t, hundred+times("+"+hundred+"*"+hundred, 60))
	wantValueFault(t, hundred+"+"+times("(", 101), 302, api.ErrDepth)
}

// P9.1: how deep nodes are

// deepOnes are expressions of a depth, of each kind of node, with the place of the outermost one.
func deepOnes(depth int) map[string]int {
	n := depth - 1
	return map[string]int{
		times("-", n) + "1":                                        0,
		"1" + times("+1", n):                                       2*n - 1,
		"1" + times("-1", n):                                       2*n - 1,
		"1" + times("*1", n):                                       2*n - 1,
		times("len(", n) + "1" + times(")", n):                     0,
		times("hex(", n) + "1" + times(")", n):                     0,
		times("cat(", n) + "1" + times(")", n):                     0,
		times("cat(0,", n) + "1" + times(",2)", n):                 0,
		times("rep(", n) + "1" + times(",2)", n):                   0,
		times("rep(0,", n) + "1" + times(")", n):                   0,
		times("(1+", n) + "1" + times(")", n):                      2,
		times("(1*", n) + "1" + times(")", n):                      2,
		times("(1-", n) + "1" + times(")", n):                      2,
		"1+1" + times("*1", n-1):                                   1,
		"cat(1" + times("+1", n-1) + ",1" + times("*1", n-2) + ")": 0,
		"rep(1,1" + times("+1", n-1) + ")":                         0,
		"-(1" + times("+1", n-1) + ")":                             0,
		"len((1" + times("*1", n-1) + "))":                         0,
		"1*(1" + times("+1", n-1) + ")":                            1,
		"1-(1" + times("+1", n-1) + ")":                            1,
	}
}

func TestNodesOfTheGreatestDepth(t *testing.T) {
	for s := range deepOnes(100) {
		wantPlainValue(t, s)
		if _, place, err := parse.Value(s); err != api.OK {
			t.Errorf("%s: %d at %d", show(s), err, place)
		}
		wantPlainValue(t, "("+s+")")
		wantPlainValue(t, s+" x")
	}
	for s, place := range deepOnes(101) {
		wantValueFault(t, s, place, api.ErrDepth)
		wantPlainValue(t, "("+s+")")
		for _, behind := range []string{" x", ")", ";", " 1", "(", "{", ",", " event", "=", ":", "+", "-", "+1", "-)", "\"t\"", "+ event", " len(1)"} {
			wantValueFault(t, s+behind, place, api.ErrDepth)
		}
	}
}

func TestASumEndsWithItsTerm(t *testing.T) {
	s := "1" + times("+1", 100) // too deep, if the last term ends here
	for behind, place := range map[string]int{"*": 202, "*)": 202, "*x": 202, "*1": -1, "*1)": -1, "*(2)": -1, "*(": 203, "*-": 203, "*1*": 204, "*1*;": 204, "*1*1": -1, "*(1": 204, "*len": 205, "*1+x": -1} {
		if place < 0 {
			wantValueFault(t, s+behind, 199, api.ErrDepth)
		} else {
			wantValueFault(t, s+behind, place, api.ErrSyntax)
		}
	}
	wantValueFault(t, s+"*?", 202, api.ErrByte)
	wantValueFault(t, s+"?", 201, api.ErrByte)
	wantValueFault(t, "1"+times("*1", 100)+"*x", 199, api.ErrDepth)
	wantValueFault(t, "1"+times("*1", 99)+"*x", 200, api.ErrSyntax)
	wantValueFault(t, "1"+times("+1", 99)+"+x", 200, api.ErrSyntax)
	wantValueFault(t, "1"+times("+1", 99)+"+1*x", 202, api.ErrSyntax)
	wantValueFault(t, "1"+times("+1", 99)+"+"+times("(", 101), 200+100, api.ErrDepth)
}

func TestTheInnerOfTwoNodesThatEndTogether(t *testing.T) {
	x := "(1" + times("+1", 99) + ")" // of depth 100
	wantPlainValue(t, x)
	for s, place := range map[string]int{
		"--" + x: 1, "---" + x: 2, "-" + x: 0, "1+-" + x: 2, "1*-" + x: 2, "1+2*" + x: 3, "1-2*" + x: 3, "1+2*-" + x: 4, "-(-" + x + ")": 2, "(-(-" + x + "))": 3,
		"1*-(2+" + x + ")": 5, "1+" + x: 1, "2*(1+" + x + ")": 4, x + "+" + x: len(x), "1*" + x + "*2": 1, "1+" + x + "*2": 2 + len(x),
	} {
		wantValueFault(t, s, place, api.ErrDepth)
	}
	for _, call := range []string{"len(", "hex(", "cat(", "cat(1,", "rep(1,"} {
		wantValueFault(t, call+x, len(call)+len(x), api.ErrSyntax) // the call's last token isn't there
		wantValueFault(t, call+x+")", 0, api.ErrDepth)
		wantValueFault(t, call+"-"+x+")", len(call), api.ErrDepth)
		wantValueFault(t, call+"-"+x+" x", len(call), api.ErrDepth)
		wantValueFault(t, "-"+call+x+")", 1, api.ErrDepth)
		wantValueFault(t, call+x+" x", len(call)+len(x)+1, api.ErrSyntax)
	}
	wantValueFault(t, "cat("+x+",x", len(x)+5, api.ErrSyntax)
	wantValueFault(t, "rep("+x+")", len(x)+4, api.ErrSyntax)
	wantValueFault(t, "rep("+x+",-)", len(x)+6, api.ErrSyntax)
	wantValueFault(t, "rep("+x+",-"+x+")", len(x)+5, api.ErrDepth)
	wantValueFault(t, "rep("+x+","+x+")", 0, api.ErrDepth)
}

// wrapped is parts put around one another: so many of them, mixed by chance.
func wrapped(r *lcg, n int) string {
	arounds := append(slices.Clone(levels), []struct{ open, shut string }{{"1+", ""}, {"1*", ""}, {"", "+1"}, {"", "*1"}, {"(", "-1)"}, {"(", "*2)"}, {"cat(1,2,", ",3)"}}...)
	few := []struct{ open, shut string }{arounds[r.below(len(arounds))], arounds[r.below(len(arounds))], arounds[r.below(len(arounds))]}
	open, shut := "", ""
	for range n {
		a := few[r.below(len(few))]
		open, shut = open+a.open, a.shut+shut
	}
	return open + r.oneOf([]string{"1", `"t"`, "true"}) + shut
}

func TestDepthsByChance(t *testing.T) {
	r := lcg(94)
	told := map[api.Errno]int{}
	for i := range 4000 {
		s := wrapped(&r, 92+r.below(16))
		if r.below(3) == 0 {
			s += r.oneOf([]string{"+", "*", "-"}) + wrapped(&r, 92+r.below(16))
		}
		tokens, _, _ := lex.Lex(s)
		k := tokens[r.below(len(tokens))]
		switch r.below(5) {
		case 0:
			s = s[:k.At]
		case 1:
			s = s[:k.At] + " " + r.oneOf(someTokens()) + " " + s[k.End:]
		case 2:
			s += r.oneOf(someTokens())
		}
		wantPlainValue(t, s)
		if i%4 == 0 {
			wantPlainSchema(t, "event a{version 1{drop x;add x:uint="+s+";add y:text=1;}}")
		}
		_, _, err := parse.Value(s)
		told[err]++
	}
	if told[api.OK] < 500 || told[api.ErrDepth] < 500 || told[api.ErrSyntax] < 500 {
		t.Errorf("%v", told)
	}
}

func TestTheFirstFaultOfASchema(t *testing.T) {
	deep, high := times("-", 100)+"1", times("(", 101)+"1"+times(")", 101)
	add := func(value string) string { return "add x:uint=" + value + ";" }
	const ahead = "event a{version 1{"
	wantSchemaFault(t, ahead+add(deep)+add(high)+"}}", len(ahead)+11, api.ErrDepth)
	wantSchemaFault(t, ahead+add(high)+add(deep)+"}}", len(ahead)+11+100, api.ErrDepth)
	wantSchemaFault(t, ahead+add(deep)+"drop;}}", len(ahead)+11, api.ErrDepth)
	wantSchemaFault(t, ahead+"drop;"+add(deep)+"}}", len(ahead)+4, api.ErrSyntax)
	wantSchemaFault(t, ahead+"add x:uint="+deep+"}}", len(ahead)+11, api.ErrDepth)
	wantSchemaFault(t, ahead+"add x:uint="+deep, len(ahead)+11, api.ErrDepth)
	wantSchemaFault(t, "event a{}"+ahead+add(deep), 8, api.ErrSyntax)
	wantSchemaFault(t, ahead+"}}"+"a "+ahead+add(deep), 20, api.ErrSyntax)
}

// P9.1: how long a text is

func TestTextsOfTheGreatestLength(t *testing.T) {
	const most = 1048576
	s := "event a{version 1{}}"
	wantSchema(t, s+times(" ", most-len(s)), event("a", 0, version(1, 8)))
	wantSchema(t, times("\n", most-len(s))+s, event("a", most-len(s), version(1, most-len(s)+8)))
	wantSchema(t, s+"#"+times("?", most-len(s)-1), event("a", 0, version(1, 8)))
	wantSchema(t, times(" ", most))
	wantSchemaFault(t, s+times(" ", most-len(s)+1), 0, api.ErrLong)
	wantSchemaFault(t, times(" ", most+1), 0, api.ErrLong)
	wantSchemaFault(t, "}"+times(" ", most), 0, api.ErrLong)
	wantSchemaFault(t, "?"+times(" ", most), 0, api.ErrLong)
	wantSchemaFault(t, "event"+times(" ", most-5), most, api.ErrSyntax)
	wantSchemaFault(t, times(" ", most-1)+"}", most-1, api.ErrSyntax)
	wantValue(t, times(" ", most-1)+"1", numNode(1, most-1))
	wantValue(t, "1"+times(" ", most-1), numNode(1, 0))
	wantValue(t, `"`+times("\xff", most-2)+`"`, textNode(times("\xff", most-2), 0))
	wantValueFault(t, times(" ", most)+"1", 0, api.ErrLong)
	wantValueFault(t, "1"+times(" ", most), 0, api.ErrLong)
	wantValueFault(t, times("(", most), 100, api.ErrDepth)
	wantValueFault(t, times("-", most), 100, api.ErrDepth)
	wantValueFault(t, times("(", most+1), 0, api.ErrLong)
	wantValueFault(t, "1"+times("+1", most/2-1), 199, api.ErrDepth)
}

func TestManyEventsVersionsAndSteps(t *testing.T) {
	one := "event a{version 1{}}"
	var events []api.EventDecl
	for i := range api.MaxText / len(one) {
		events = append(events, event("a", i*len(one), version(1, i*len(one)+8)))
	}
	wantSchema(t, times(one, api.MaxText/len(one)), events...)
	var versions []api.VersionDecl
	for i := range 95000 {
		versions = append(versions, version(3, 8+11*i))
	}
	wantSchema(t, "event a{"+times("version 3{}", 95000)+"}", event("a", 0, versions...))
	var steps []api.StepDecl
	for i := range 149000 {
		steps = append(steps, api.StepDecl{Kind: api.StepDrop, A: "x", At: 18 + 7*i})
	}
	wantSchema(t, "event a{version 1{"+times("drop x;", 149000)+"}}", event("a", 0, version(1, 8, steps...)))
}

// P9.3

func TestBlanksAndBracketsChangePlacesAlone(t *testing.T) {
	r := lcg(95)
	for range 3000 {
		tree, values := r.anySchema()
		plain := tight()
		plain.schema(tree, values)
		first, _, _ := parse.Schema(plain.out.String())
		other := loose(&r)
		other.schema(tree, values)
		second, _, err := parse.Schema(other.out.String())
		if err != api.OK || !sameSchema(moved(first, nowhere), moved(second, nowhere)) {
			t.Errorf("%s: %d, another tree than %s", show(other.out.String()), err, show(plain.out.String()))
		}
	}
}

func TestStuffBetweenTheTokensOfFaults(t *testing.T) {
	for _, s := range []string{everyStep + "x", "event a{version 1{add x:uint=1+;}}", "event a{version 1{rename to to to;}}", "event a{version 1{add x:uint=" + times("-", 100) + "1;}}", "event a{}", "event a{version 1{add x:t=cat(;}}"} {
		tokens, _, _ := lex.Lex(s)
		_, place, err := parse.Schema(s)
		for _, stuff := range []string{" ", "\n", "\t\r\n", "# } event\n", " #\"\n # ?\n"} {
			var out strings.Builder
			want := -1
			end := 0
			for _, k := range tokens {
				out.WriteString(s[end:k.At] + stuff)
				if k.At == place {
					want = out.Len()
				}
				out.WriteString(s[k.At:k.End])
				end = k.End
			}
			wantSchemaFault(t, out.String(), want, err)
		}
	}
}

func TestBracketsAroundOperands(t *testing.T) {
	for _, s := range []string{"1", "-1", "1+2*3-4", "cat(1,2+3)", `rep("a",-1)`, "len(hex(true))*-(1-2)"} {
		tokens, _, _ := lex.Lex(s)
		first, _, _ := parse.Value(s)
		for from := range tokens {
			for to := from + 1; to < len(tokens); to++ {
				inner := s[tokens[from].At:tokens[to-1].End]
				bracketed := s[:tokens[from].At] + "(" + inner + ")" + s[tokens[to-1].End:]
				wantPlainValue(t, bracketed)
				if whole := tokens[from].At == 0 && tokens[to].Kind == api.TokEnd; to-from == 1 && tokens[from].Kind != api.TokMark && tokens[from].Kind != api.TokName || whole {
					second, _, err := parse.Value(bracketed)
					if err != api.OK || !slices.Equal(movedNodes(first, nowhere), movedNodes(second, nowhere)) {
						t.Errorf("%s: %v, %d", bracketed, second, err)
					}
				}
			}
		}
	}
	for _, s := range []string{"1", "-1", "1+1"} {
		wantPlainValue(t, times("(", 99)+s+times(")", 99))
		wantPlainValue(t, times("(", 100)+s+times(")", 100))
	}
	wantValueFault(t, times("(", 100)+"-1"+times(")", 100), 100, api.ErrDepth)
	if _, _, err := parse.Value(times("(", 99) + "-1" + times(")", 99)); err != api.OK {
		t.Error(err)
	}
}

// P9.4

func TestTwoTextsTogether(t *testing.T) {
	r := lcg(96)
	for range 3000 {
		var texts []string
		var want []api.EventDecl
		begin := 0
		for range 2 + r.below(2) {
			tree, values := r.anySchema()
			w := loose(&r)
			w.schema(tree, values)
			w.out.WriteString(r.oneOf([]string{"", "# a remark", "\n", "#"}))
			want = append(want, moved(tree, func(at int) int { return begin + at }).Events...)
			texts = append(texts, w.out.String())
			begin += w.out.Len() + 1
		}
		wantSchema(t, strings.Join(texts, "\n"), want...)
	}
	one := "event a{version 1{}}"
	a, b := one+times(" ", 1000), one+times(" ", api.MaxText-1001-2*len(one))
	wantSchema(t, a+"\n"+b, event("a", 0, version(1, 8)), event("a", 1021, version(1, 1029)))
	wantSchema(t, b+"\n"+a, event("a", 0, version(1, 8)), event("a", len(b)+1, version(1, len(b)+9)))
	wantSchemaFault(t, a+"\n"+b+" ", 0, api.ErrLong)
}

// P9.5, and rules 3 and 4

func TestNewMemory(t *testing.T) {
	r := lcg(97)
	for range 500 {
		tree, values := r.anySchema()
		w := tight()
		w.schema(tree, values)
		s := w.out.String()
		first, _, _ := parse.Schema(s)
		second, _, _ := parse.Schema(s)
		if !apart(append(spansOf(first), spansOf(second)...)) {
			t.Fatalf("Schema(%s): lists share memory", show(s))
		}
		for _, text := range textsOf(first) {
			if share(text, s) {
				t.Errorf("Schema(%s): %s shares the text's memory", show(s), show(text))
			}
		}
		spoil(first)
		if third, _, _ := parse.Schema(s); !sameSchema(second, tree) || !sameSchema(third, tree) {
			t.Errorf("Schema(%s): another answer", show(s))
		}
	}
}

// spoil overwrites all lists of a tree, their spare room too.
func spoil(t api.Schema) {
	for _, e := range t.Events {
		for _, v := range e.Versions {
			for _, s := range v.Steps {
				clear(s.Value[:cap(s.Value)])
			}
			clear(v.Steps[:cap(v.Steps)])
		}
		clear(e.Versions[:cap(e.Versions)])
	}
	clear(t.Events[:cap(t.Events)])
}

func TestNewMemoryOfValues(t *testing.T) {
	s := strings.Clone(`cat("a text of some bytes", rep("another", 3), "\x41\x42") + hex("00")`)
	first, _, _ := parse.Value(s)
	second, _, _ := parse.Value(s)
	if !apart([]span{spanOf(first), spanOf(second)}) {
		t.Error("two answers share memory")
	}
	for _, n := range first {
		if share(n.Text, s) {
			t.Errorf("%s shares the text's memory", show(n.Text))
		}
	}
	want := slices.Clone(second)
	clear(first[:cap(first)])
	if third, _, _ := parse.Value(s); !slices.Equal(second, want) || !slices.Equal(third, want) {
		t.Errorf("%v, %v", second, third)
	}
}

func TestCallsBesideOneAnother(t *testing.T) {
	texts := []string{everyStep, "event a{}", "event a{version 1{add x:uint=" + times("-", 100) + "1;}}", "?", everyStep + everyStep}
	var all sync.WaitGroup
	for range 8 {
		all.Go(func() {
			for range 50 {
				for _, s := range texts {
					wantPlainSchema(t, s)
				}
			}
		})
	}
	all.Wait()
}

// The parts of what is wanted.

func event(name string, at int, versions ...api.VersionDecl) api.EventDecl {
	return api.EventDecl{Name: name, Versions: versions, At: at}
}

func version(number uint64, at int, steps ...api.StepDecl) api.VersionDecl {
	return api.VersionDecl{Number: number, Steps: steps, At: at}
}

func numNode(n uint64, at int) api.Node  { return api.Node{Op: api.ExNumber, Num: n, At: at} }
func textNode(s string, at int) api.Node { return api.Node{Op: api.ExText, Text: s, At: at} }
func catNode(n int, at int) api.Node     { return api.Node{Op: api.ExCat, N: n, At: at} }
func node(op int, at int) api.Node       { return api.Node{Op: op, At: at} }

func times(s string, n int) string { return strings.Repeat(s, n) }
