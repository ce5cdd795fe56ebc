package expr

import (
	"strings"

	"stratum/api"
	"stratum/part"
	"stratum/postorder"
)

// The sorts of what a node stands for.
const (
	aNumber = iota + 1
	aText
	aTruth
	someBytes
)

// meaning is what a node stands for.
type meaning struct {
	sort   int
	number number // aTruth has 1 or 0 here
	text   string // someBytes stand here too
}

// fault is what the reckoning gives up with, however deep in an expression it is.
type fault struct {
	at  int
	err api.Errno
}

func giveUp(s postorder.Subtree, err api.Errno) {
	panic(fault{s.Place(), err})
}

// want gives up at a node whose kids don't stand for what it takes.
func want(s postorder.Subtree, taken bool) {
	if !taken {
		giveUp(s, api.ErrKinds)
	}
}

// reckon is for expressions that Check takes, and so it calls itself no deeper than the limit. Each node looks for its
// own faults when all its kids are reckoned, in their order: so the first that is met is the first from the front on.
func reckon(s postorder.Subtree) meaning {
	switch n := s.Node(); n.Op {
	case api.ExNumber:
		return meaning{sort: aNumber, number: number{size: n.Num}}
	case api.ExText:
		return textOf(s, n.Text)
	case api.ExTrue:
		return meaning{sort: aTruth, number: number{size: 1}}
	case api.ExFalse:
		return meaning{sort: aTruth}
	case api.ExNeg:
		return negative(s)
	case api.ExAdd:
		return add(s)
	case api.ExSub:
		a, b := two(s)
		return arithmetic(s, a, b, difference)
	case api.ExMul:
		a, b := two(s)
		return arithmetic(s, a, b, product)
	case api.ExCat:
		return cat(s)
	case api.ExRep:
		return rep(s)
	case api.ExLen:
		return length(s)
	default: // Check takes no other Op than ExHex here
		return hex(s)
	}
}

func one(s postorder.Subtree) meaning {
	return reckon(s.Kids()[0])
}

func two(s postorder.Subtree) (meaning, meaning) {
	kids := s.Kids()
	a := reckon(kids[0])
	b := reckon(kids[1])
	return a, b
}

func numberOf(s postorder.Subtree, n number, fits bool) meaning {
	if !fits {
		giveUp(s, api.ErrValue)
	}
	return meaning{sort: aNumber, number: n}
}

func textOf(s postorder.Subtree, t string) meaning {
	if len(t) > api.MaxValue {
		giveUp(s, api.ErrLong)
	}
	return meaning{sort: aText, text: t}
}

func negative(s postorder.Subtree) meaning {
	a := one(s)
	want(s, a.sort == aNumber)
	n, fits := opposite(a.number)
	return numberOf(s, n, fits)
}

func add(s postorder.Subtree) meaning {
	a, b := two(s)
	if a.sort == aText && b.sort == aText {
		return textOf(s, part.Join(a.text, "", b.text))
	}
	return arithmetic(s, a, b, sum)
}

func arithmetic(s postorder.Subtree, a meaning, b meaning, do func(a number, b number) (number, bool)) meaning {
	want(s, a.sort == aNumber && b.sort == aNumber)
	n, fits := do(a.number, b.number)
	return numberOf(s, n, fits)
}

// cat keeps hardly more than a text may have, however many kids there are. Its own faults wait till all of them have
// told theirs.
func cat(s postorder.Subtree) meaning {
	var out strings.Builder
	texts := true
	for _, kid := range s.Kids() {
		k := reckon(kid)
		texts = texts && k.sort == aText
		if out.Len() <= api.MaxValue {
			out.WriteString(k.text)
		}
	}
	want(s, texts)
	return textOf(s, out.String())
}

func rep(s postorder.Subtree) meaning {
	a, b := two(s)
	want(s, a.sort == aText && b.sort == aNumber)
	if b.number.below {
		giveUp(s, api.ErrValue)
	}
	t, err := part.Rep(a.text, b.number.size)
	if err != api.OK {
		giveUp(s, err)
	}
	return textOf(s, t)
}

func length(s postorder.Subtree) meaning {
	a := one(s)
	want(s, a.sort == aText || a.sort == someBytes)
	return meaning{sort: aNumber, number: number{size: uint64(len(a.text))}}
}

func hex(s postorder.Subtree) meaning {
	a := one(s)
	want(s, a.sort == aText)
	t, err := part.Hex(a.text)
	if err != api.OK {
		giveUp(s, err)
	}
	return meaning{sort: someBytes, text: t}
}
