package parse_test

import (
	"regexp"
	"slices"

	"stratum/api"
	"stratum/lex"
)

// The calls as the chapter tells them: the syntax by the chapter's own grammar, which is read as a text; expressions by
// a machine with stacks; trees by the places of a step's tokens.

// grammar is the chapter's, letter by letter.
const grammar = `
text    = { event } .
event   = "event" NAME "{" version { version } "}" .
version = "version" NUMBER "{" { step } "}" .
step    = "add" NAME ":" NAME [ "=" expr ] ";"
        | "rename" NAME "to" NAME ";"
        | "split" NAME "at" TEXT "into" NAME "," NAME ";"
        | "join" NAME "," NAME "with" TEXT "into" NAME ";"
        | "retype" NAME "to" NAME ";"
        | "drop" NAME ";" .
expr    = term { ( "+" | "-" ) term } .
term    = factor { "*" factor } .
factor  = NUMBER | TEXT | "true" | "false" | "-" factor | "(" expr ")"
        | "cat" "(" expr { "," expr } ")"
        | "rep" "(" expr "," expr ")"
        | "len" "(" expr ")" | "hex" "(" expr ")" .
`

// words are the chapter's eighteen, in its order.
var words = []string{
	"event", "version", "add", "rename", "split", "join", "retype", "drop", "to", "at", "into", "with", "true", "false", "cat", "rep", "len", "hex",
}

// A part of a rule is a token that must stand there, a rule's name, or parts together.
type part struct {
	how   byte // t a token, r a rule, s parts one behind the other, a one of them, o none or one, l as many as there are
	is    string
	parts []*part
}

type rules map[string]*part

// plainRules is the grammar.
var plainRules = readRules()

func readRules() rules {
	left := regexp.MustCompile(`"[^"]*"|[A-Za-z]+|[{}()\[\]|.=]`).FindAllString(grammar, -1)
	out := rules{}
	for len(left) > 0 {
		var p *part
		name := left[0]
		p, left = readChoice(left[2:])
		out[name] = p
		left = left[1:] // the point
	}
	return out
}

// readChoice reads up to what ends it, and answers what is left from there on.
func readChoice(left []string) (*part, []string) {
	choice := &part{how: 'a', parts: []*part{{how: 's'}}}
	for {
		row := choice.parts[len(choice.parts)-1]
		var p *part
		switch how := map[string]byte{"{": 'l', "[": 'o', "(": 's'}[left[0]]; {
		case how != 0:
			p, left = readChoice(left[1:])
			row.parts = append(row.parts, &part{how: how, parts: []*part{p}})
		case left[0] == "|":
			choice.parts = append(choice.parts, &part{how: 's'})
		case slices.Contains([]string{"}", "]", ")", "."}, left[0]):
			return choice, left
		case left[0][0] == '"' || left[0][0] < 'a':
			row.parts = append(row.parts, &part{how: 't', is: left[0]})
		default:
			row.parts = append(row.parts, &part{how: 'r', is: left[0]})
		}
		left = left[1:]
	}
}

// fits: whether a token may stand where the grammar has this.
func fits(is string, t api.Token) bool {
	switch is {
	case "NUMBER":
		return t.Kind == api.TokNumber
	case "TEXT":
		return t.Kind == api.TokText
	case "NAME":
		return t.Kind == api.TokName && !slices.Contains(words, t.Text)
	}
	isWord := is[1] >= 'a' && is[1] <= 'z'
	return is == `"`+t.Text+`"` && (isWord && t.Kind == api.TokName || !isWord && t.Kind == api.TokMark)
}

// todo is what must still come, one part behind the other; nil: nothing.
type todo struct {
	part *part
	rest *todo
}

// heads gives every way on: a list of what must come that begins with a token, or nil for the end.
func (l *todo) heads(give func(*todo)) {
	if l == nil || l.part.how == 't' {
		give(l)
		return
	}
	switch l.part.how {
	case 'r':
		(&todo{plainRules[l.part.is], l.rest}).heads(give)
	case 's':
		rest := l.rest
		for _, p := range slices.Backward(l.part.parts) {
			rest = &todo{p, rest}
		}
		rest.heads(give)
	case 'a':
		for _, p := range l.part.parts {
			(&todo{p, l.rest}).heads(give)
		}
	case 'o':
		l.rest.heads(give)
		(&todo{l.part.parts[0], l.rest}).heads(give)
	case 'l':
		l.rest.heads(give)
		(&todo{l.part.parts[0], l}).heads(give)
	}
}

// plainSyntax is the place in the list of the first token that can't stand there; the list's length: there is none.
// It puts into seen what the grammar has at the tokens' places.
func plainSyntax(rule string, tokens []api.Token, seen map[*part]bool) int {
	now := []*todo{{part: &part{how: 'r', is: rule}}}
	for i, t := range tokens {
		var then []*todo
		ends := false
		for _, l := range now {
			l.heads(func(l *todo) {
				if l == nil {
					ends = true
				} else if fits(l.part.is, t) {
					then = append(then, l.rest)
					seen[l.part] = true
				}
			})
		}
		if t.Kind == api.TokEnd && ends {
			return len(tokens)
		}
		if len(then) == 0 {
			return i
		}
		now = then
	}
	return len(tokens)
}

// waiting is a mark, a bracket or a call whose end is still to come.
type waiting struct {
	how   byte // + also a - between, * between, - in front, ( a bracket, c a call
	node  api.Node
	least int // a call's kids
	most  int
	kids  int // how many of them there are, the open one too
}

// machine takes an expression's tokens one by one.
type machine struct {
	nodes []api.Node
	deep  []int // how deep what is made and not yet used is
	waits []waiting
	place int
	err   api.Errno
}

func (m *machine) fault(place int, err api.Errno) {
	if m.err == api.OK {
		m.place, m.err = place, err
	}
}

func (m *machine) top() byte {
	if len(m.waits) == 0 {
		return 0
	}
	return m.waits[len(m.waits)-1].how
}

// open is how many levels are open.
func (m *machine) open() int {
	n := 0
	for _, w := range m.waits {
		if w.how == '-' || w.how == '(' || w.how == 'c' {
			n++
		}
	}
	return n
}

func (m *machine) push(w waiting) {
	if m.waits = append(m.waits, w); m.open() > 100 {
		m.fault(w.node.At, api.ErrDepth)
	}
}

func (m *machine) pop() waiting {
	w := m.waits[len(m.waits)-1]
	m.waits = m.waits[:len(m.waits)-1]
	return w
}

// build makes a node out of the last so many.
func (m *machine) build(n api.Node, kids int) {
	deep := 1
	for range kids {
		deep = max(deep, 1+m.deep[len(m.deep)-1])
		m.deep = m.deep[:len(m.deep)-1]
	}
	m.deep = append(m.deep, deep)
	m.nodes = append(m.nodes, n)
	if deep > 100 {
		m.fault(n.At, api.ErrDepth)
	}
}

// factorEnds builds what ends with a factor.
func (m *machine) factorEnds() {
	for m.top() == '-' || m.top() == '*' {
		w := m.pop()
		m.build(w.node, w.kids)
	}
}

// termEnds builds what ends with a term.
func (m *machine) termEnds() {
	if m.top() == '+' {
		m.build(m.pop().node, 2)
	}
}

// operand takes a token where a factor begins, and answers whether the factor ends with it.
func (m *machine) operand(t api.Token) bool {
	leaves := map[string]int{"true": api.ExTrue, "false": api.ExFalse}
	calls := map[string]waiting{
		"cat": {node: api.Node{Op: api.ExCat}, least: 1, most: 1 << 30},
		"rep": {node: api.Node{Op: api.ExRep}, least: 2, most: 2},
		"len": {node: api.Node{Op: api.ExLen}, least: 1, most: 1},
		"hex": {node: api.Node{Op: api.ExHex}, least: 1, most: 1},
	}
	switch {
	case t.Kind == api.TokNumber:
		m.build(api.Node{Op: api.ExNumber, Num: t.Num, At: t.At}, 0)
		return true
	case t.Kind == api.TokText:
		m.build(api.Node{Op: api.ExText, Text: t.Text, At: t.At}, 0)
		return true
	case t.Kind == api.TokName && leaves[t.Text] != 0:
		m.build(api.Node{Op: leaves[t.Text], At: t.At}, 0)
		return true
	case t.Kind == api.TokName && calls[t.Text].least != 0:
		w := calls[t.Text]
		w.how, w.kids, w.node.At = 'c', 0, t.At
		m.push(w)
	case t.Kind == api.TokMark && t.Text == "-":
		m.push(waiting{how: '-', node: api.Node{Op: api.ExNeg, At: t.At}, kids: 1})
	case t.Kind == api.TokMark && t.Text == "(":
		m.push(waiting{how: '(', node: api.Node{At: t.At}})
	default:
		m.fault(t.At, api.ErrSyntax)
	}
	return false
}

// behind takes a token behind a factor, and answers whether a factor ends with it, and whether the expression ended ahead of it.
func (m *machine) behind(t api.Token) (bool, bool) {
	is := ""
	if t.Kind == api.TokMark {
		is = t.Text
	}
	if is == "*" {
		m.push(waiting{how: '*', node: api.Node{Op: api.ExMul, At: t.At}, kids: 2})
		return false, false
	}
	m.termEnds()
	between := map[string]int{"+": api.ExAdd, "-": api.ExSub}
	var w waiting
	if len(m.waits) > 0 {
		w = m.waits[len(m.waits)-1]
	}
	switch {
	case between[is] != 0:
		m.push(waiting{how: '+', node: api.Node{Op: between[is], At: t.At}})
		return false, false
	case w.how == 0:
		return false, true
	case is == ")" && w.how == '(':
		m.pop()
		return true, false
	case is == ")" && w.how == 'c' && w.kids >= w.least:
		m.pop()
		if w.node.Op == api.ExCat {
			w.node.N = w.kids
		}
		m.build(w.node, w.kids)
		return true, false
	case is == "," && w.how == 'c' && w.kids < w.most:
		m.waits[len(m.waits)-1].kids++
		return false, false
	}
	m.fault(t.At, api.ErrSyntax)
	return false, false
}

// plainExpression is the expression at the front of the tokens, and how many of these it has; or the first fault.
func plainExpression(tokens []api.Token) ([]api.Node, int, int, api.Errno) {
	var m machine
	behind := false // a factor has ended
	for i, t := range tokens {
		ended := false
		switch {
		case m.top() == 'c' && m.waits[len(m.waits)-1].kids == 0:
			m.waits[len(m.waits)-1].kids = 1
			if t.Kind != api.TokMark || t.Text != "(" {
				m.fault(t.At, api.ErrSyntax)
			}
		case !behind:
			behind = m.operand(t)
		default:
			behind, ended = m.behind(t)
		}
		if behind {
			m.factorEnds()
		}
		if m.err != api.OK {
			return nil, 0, m.place, m.err
		}
		if ended {
			return m.nodes, i, 0, api.OK
		}
	}
	return nil, 0, 0, api.ErrArg // never: the TokEnd ends every list
}

func plainValue(s string) ([]api.Node, int, api.Errno) {
	tokens, place, err := lex.Lex(s)
	if err != api.OK {
		return nil, place, err
	}
	nodes, n, place, err := plainExpression(tokens)
	if err == api.OK && tokens[n].Kind != api.TokEnd {
		return nil, tokens[n].At, api.ErrSyntax
	}
	return nodes, place, err
}

func plainSchema(s string) (api.Schema, int, api.Errno) {
	tokens, place, err := lex.Lex(s)
	if err != api.OK {
		return api.Schema{}, place, err
	}
	stop := plainSyntax("text", tokens, map[*part]bool{})
	for i, t := range tokens[:stop] {
		if t.Kind == api.TokMark && t.Text == "=" {
			if _, _, place, err := plainExpression(tokens[i+1:]); err == api.ErrDepth {
				return api.Schema{}, place, err
			}
		}
	}
	if stop < len(tokens) {
		return api.Schema{}, tokens[stop].At, api.ErrSyntax
	}
	return plainTree(tokens), 0, api.OK
}

// plainTree is the tree of tokens that the grammar takes.
func plainTree(tokens []api.Token) api.Schema {
	var out api.Schema
	for i, t := range tokens {
		if t.Kind != api.TokName {
			continue
		}
		switch kind := slices.Index(words, t.Text); kind {
		case 0:
			out.Events = append(out.Events, api.EventDecl{Name: tokens[i+1].Text, At: t.At})
		case 1:
			e := &out.Events[len(out.Events)-1]
			e.Versions = append(e.Versions, api.VersionDecl{Number: tokens[i+1].Num, At: t.At})
		case 2, 3, 4, 5, 6, 7:
			e := &out.Events[len(out.Events)-1]
			v := &e.Versions[len(e.Versions)-1]
			v.Steps = append(v.Steps, plainStep(kind-1, tokens[i:]))
		}
	}
	return out
}

// plainStep is the step at the front of the tokens.
func plainStep(kind int, t []api.Token) api.StepDecl {
	switch kind {
	case api.StepAdd:
		s := api.StepDecl{Kind: 1, A: t[1].Text, Type: t[3].Text, At: t[0].At}
		if t[4].Text == "=" {
			s.Value, _, _, _ = plainExpression(t[5:])
		}
		return s
	case api.StepRename:
		return api.StepDecl{Kind: 2, A: t[1].Text, B: t[3].Text, At: t[0].At}
	case api.StepSplit:
		return api.StepDecl{Kind: 3, A: t[1].Text, Sep: t[3].Text, B: t[5].Text, C: t[7].Text, At: t[0].At}
	case api.StepJoin:
		return api.StepDecl{Kind: 4, A: t[1].Text, B: t[3].Text, Sep: t[5].Text, C: t[7].Text, At: t[0].At}
	case api.StepRetype:
		return api.StepDecl{Kind: 5, A: t[1].Text, Type: t[3].Text, At: t[0].At}
	}
	return api.StepDecl{Kind: 6, A: t[1].Text, At: t[0].At}
}
