package parse

import (
	"stratum/api"
	"stratum/grammar"
)

// expression is one that is being read: its nodes so far, and how many levels are open.
// What reads a part of it puts that part's nodes and answers how deep the last of them is.
type expression struct {
	*reader
	nodes []api.Node
	open  int
}

func (r *reader) expression() []api.Node {
	x := expression{reader: r}
	x.sum()
	return x.nodes
}

// sum reads what the grammar calls expr.
func (x *expression) sum() int {
	deep := x.term()
	for x.atMark("+") || x.atMark("-") {
		mark := x.take()
		op := api.ExAdd
		if mark.Text == "-" {
			op = api.ExSub
		}
		deep = x.put(api.Node{Op: op, At: mark.At}, max(deep, x.term()))
	}
	return deep
}

func (x *expression) term() int {
	deep := x.factor()
	for x.atMark("*") {
		mark := x.take()
		deep = x.put(api.Node{Op: api.ExMul, At: mark.At}, max(deep, x.factor()))
	}
	return deep
}

func (x *expression) factor() int {
	switch t := x.peek(); {
	case t.Kind == api.TokNumber:
		return x.leaf(api.Node{Op: api.ExNumber, Num: t.Num})
	case t.Kind == api.TokText:
		return x.leaf(api.Node{Op: api.ExText, Text: t.Text})
	case x.atWord(grammar.True):
		return x.leaf(api.Node{Op: api.ExTrue})
	case x.atWord(grammar.False):
		return x.leaf(api.Node{Op: api.ExFalse})
	case x.atMark("-"):
		return x.negative()
	case x.atMark("("):
		return x.brackets()
	case x.atWord(grammar.Cat):
		return x.cat()
	case x.atWord(grammar.Rep):
		return x.call(api.ExRep, 2)
	case x.atWord(grammar.Len):
		return x.call(api.ExLen, 1)
	case x.atWord(grammar.Hex):
		return x.call(api.ExHex, 1)
	default:
		x.fault(t.At, api.ErrSyntax)
		return 0
	}
}

func (x *expression) leaf(n api.Node) int {
	n.At = x.take().At
	return x.put(n, 0)
}

func (x *expression) negative() int {
	at := x.enter()
	deep := x.factor()
	x.leave()
	return x.put(api.Node{Op: api.ExNeg, At: at}, deep)
}

func (x *expression) brackets() int {
	x.enter()
	deep := x.sum()
	x.mark(")")
	x.leave()
	return deep
}

func (x *expression) cat() int {
	at := x.enter()
	x.mark("(")
	deep := x.sum()
	kids := 1
	for x.atMark(",") {
		x.take()
		deep = max(deep, x.sum())
		kids++
	}
	x.mark(")")
	x.leave()
	return x.put(api.Node{Op: api.ExCat, N: kids, At: at}, deep)
}

// call reads a call that has just so many kids.
func (x *expression) call(op int, kids int) int {
	at := x.enter()
	x.mark("(")
	deep := x.sum()
	for range kids - 1 {
		x.mark(",")
		deep = max(deep, x.sum())
	}
	x.mark(")")
	x.leave()
	return x.put(api.Node{Op: op, At: at}, deep)
}

// enter takes a token that opens a level, and answers its place.
func (x *expression) enter() int {
	at := x.take().At
	x.open++
	if x.open > api.MaxDepth {
		x.fault(at, api.ErrDepth)
	}
	return at
}

func (x *expression) leave() {
	x.open--
}

// put is called when the last token of a node has been read: its kids are there, the deepest of depth kids.
func (x *expression) put(n api.Node, kids int) int {
	x.nodes = append(x.nodes, n)
	if kids >= api.MaxDepth {
		x.fault(n.At, api.ErrDepth)
	}
	return kids + 1
}
