package print

import (
	"strconv"
	"strings"

	"stratum/api"
	"stratum/grammar"
	"stratum/lex"
	"stratum/postorder"
)

// writer puts a text together, and keeps whether it met something that no text has.
type writer struct {
	out   strings.Builder
	deep  bool // an expression was too deep
	long  bool // there was no room for something: nothing is put behind it any more
	nodes [api.ExHex + 1]func(postorder.Subtree)
	steps [api.StepDrop + 1]func(api.StepDecl)
}

// wrapping writes a node by its kids: with what stands ahead of them, between each two of them, and behind them.
type wrapping struct {
	w       *writer
	ahead   string
	between string
	behind  string
}

func newWriter() *writer {
	w := &writer{}
	w.nodes = w.nodeWriters()
	w.steps = w.stepWriters()
	return w
}

// nodeWriters stand at the places of their Ops.
func (w *writer) nodeWriters() [api.ExHex + 1]func(postorder.Subtree) {
	return [...]func(postorder.Subtree){
		api.ExNumber: w.number,
		api.ExText:   w.quoted,
		api.ExTrue:   wrapping{w, grammar.True, "", ""}.write,
		api.ExFalse:  wrapping{w, grammar.False, "", ""}.write,
		api.ExNeg:    wrapping{w, "-", "", ""}.write,
		api.ExAdd:    wrapping{w, "(", " + ", ")"}.write,
		api.ExSub:    wrapping{w, "(", " - ", ")"}.write,
		api.ExMul:    wrapping{w, "(", " * ", ")"}.write,
		api.ExCat:    wrapping{w, grammar.Cat + "(", ", ", ")"}.write,
		api.ExRep:    wrapping{w, grammar.Rep + "(", ", ", ")"}.write,
		api.ExLen:    wrapping{w, grammar.Len + "(", "", ")"}.write,
		api.ExHex:    wrapping{w, grammar.Hex + "(", "", ")"}.write,
	}
}

// stepWriters stand at the places of their Kinds.
func (w *writer) stepWriters() [api.StepDrop + 1]func(api.StepDecl) {
	return [...]func(api.StepDecl){
		api.StepAdd:    w.add,
		api.StepRename: w.rename,
		api.StepSplit:  w.split,
		api.StepJoin:   w.join,
		api.StepRetype: w.retype,
		api.StepDrop:   w.drop,
	}
}

// text is what has been written, or why it is none.
func (w *writer) text() (string, api.Errno) {
	switch {
	case w.deep:
		return "", api.ErrDepth
	case w.long:
		return "", api.ErrLong
	}
	return w.out.String(), api.OK
}

// fits: whether there is room for s, and was for all ahead of it.
func (w *writer) fits(s string) bool {
	w.long = w.long || len(s) > api.MaxText-w.out.Len()
	return !w.long
}

func (w *writer) put(s string) {
	if w.fits(s) {
		w.out.WriteString(s)
	}
}

// words puts texts with a blank between.
func (w *writer) words(texts ...string) {
	for i, s := range texts {
		if i > 0 {
			w.put(" ")
		}
		w.put(s)
	}
}

// quote is the token that stands for s; nothing where s by itself is too long already, since Quote makes up to four
// bytes of each.
func (w *writer) quote(s string) string {
	if !w.fits(s) {
		return ""
	}
	return lex.Quote(s)
}

func (w *writer) event(e api.EventDecl) {
	w.words(grammar.Event, e.Name, "{\n")
	for _, v := range e.Versions {
		w.version(v)
	}
	w.put("}\n")
}

func (w *writer) version(v api.VersionDecl) {
	w.put("  ")
	w.words(grammar.Version, strconv.FormatUint(v.Number, 10), "{\n")
	for _, s := range v.Steps {
		w.put("    ")
		w.steps[s.Kind](s)
		w.put(";\n")
	}
	w.put("  }\n")
}

func (w *writer) add(s api.StepDecl) {
	w.words(grammar.Add, s.A+":", s.Type)
	if len(s.Value) > 0 {
		w.put(" = ")
		w.expression(s.Value)
	}
}

func (w *writer) rename(s api.StepDecl) {
	w.words(grammar.Rename, s.A, grammar.To, s.B)
}

func (w *writer) split(s api.StepDecl) {
	w.words(grammar.Split, s.A, grammar.At, w.quote(s.Sep), grammar.Into, s.B+",", s.C)
}

func (w *writer) join(s api.StepDecl) {
	w.words(grammar.Join, s.A+",", s.B, grammar.With, w.quote(s.Sep), grammar.Into, s.C)
}

func (w *writer) retype(s api.StepDecl) {
	w.words(grammar.Retype, s.A, grammar.To, s.Type)
}

func (w *writer) drop(s api.StepDecl) {
	w.words(grammar.Drop, s.A)
}

// expression is for nodes that are one. One that is too deep isn't gone into, so that the writers call one another no
// deeper than the limit.
func (w *writer) expression(nodes []api.Node) {
	all, _ := postorder.Subtrees(nodes)
	root := all[len(all)-1]
	if root.Depth() > api.MaxDepth {
		w.deep = true
		return
	}
	w.subtree(root)
}

func (w *writer) subtree(s postorder.Subtree) {
	w.nodes[s.Node().Op](s)
}

func (w *writer) number(s postorder.Subtree) {
	w.put(strconv.FormatUint(s.Node().Num, 10))
}

func (w *writer) quoted(s postorder.Subtree) {
	w.put(w.quote(s.Node().Text))
}

func (p wrapping) write(s postorder.Subtree) {
	p.w.put(p.ahead)
	for i, kid := range s.Kids() {
		if i > 0 {
			p.w.put(p.between)
		}
		p.w.subtree(kid)
	}
	p.w.put(p.behind)
}
