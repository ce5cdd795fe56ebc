package check

import (
	"strings"

	"stratum/api"
	"stratum/conv"
	"stratum/expr"
	"stratum/kind"
)

// taker checks a step as it is written, does it to the columns, and answers it by their tags.
type taker func(s api.StepDecl) (api.Step, fault)

// takersOf are those of a type's steps, at the places of their Kinds.
func takersOf(t *typing) [api.StepDrop + 1]taker {
	return [...]taker{
		api.StepAdd:    takeAdd(t),
		api.StepRename: takeRename(t.columns),
		api.StepSplit:  takeSplit(t.columns),
		api.StepJoin:   takeJoin(t.columns),
		api.StepRetype: takeRetype(t.columns),
		api.StepDrop:   takeDrop(t.columns),
	}
}

func refuse(s api.StepDecl, err api.Errno) (api.Step, fault) {
	return api.Step{}, fault{s.At, err}
}

func takeAdd(t *typing) taker {
	return func(s api.StepDecl) (api.Step, fault) {
		c, k := t.columns, kind.Of(s.Type)
		switch {
		case c.tagOf(s.A) != 0:
			return refuse(s, api.ErrTaken)
		case k == 0:
			return refuse(s, api.ErrName)
		case !c.hasRoom(1):
			return refuse(s, api.ErrMany)
		case t.inFirst() != (len(s.Value) == 0):
			return refuse(s, api.ErrValue)
		}
		v, f := valueOf(s.Value, k)
		if f.is() {
			return api.Step{}, f
		}
		return api.Step{Kind: s.Kind, A: c.add(s.A, k), Val: v}, fault{}
	}
}

// valueOf is the value of an expression; of no nodes the zero Value.
func valueOf(nodes []api.Node, k int) (api.Value, fault) {
	if len(nodes) == 0 {
		return api.Value{}, fault{}
	}
	v, place, err := expr.Value(nodes, k)
	if err != api.OK {
		return api.Value{}, fault{nodes[place].At, err}
	}
	return v, fault{}
}

func takeRename(c *columns) taker {
	return func(s api.StepDecl) (api.Step, fault) {
		a := c.tagOf(s.A)
		switch {
		case a == 0:
			return refuse(s, api.ErrName)
		case c.tagOf(s.B) != 0:
			return refuse(s, api.ErrTaken)
		}
		c.rename(a, s.B)
		return api.Step{Kind: s.Kind, A: a}, fault{}
	}
}

func takeSplit(c *columns) taker {
	return func(s api.StepDecl) (api.Step, fault) {
		a := c.tagOf(s.A)
		switch {
		case a == 0:
			return refuse(s, api.ErrName)
		case c.kindOf(a) != kind.Text():
			return refuse(s, api.ErrKinds)
		case s.Sep == "" || !isText(s.Sep):
			return refuse(s, api.ErrValue)
		}
		c.drop(a)
		switch {
		case c.tagOf(s.B) != 0 || c.tagOf(s.C) != 0 || s.B == s.C:
			return refuse(s, api.ErrTaken)
		case !c.hasRoom(2):
			return refuse(s, api.ErrMany)
		}
		b := c.add(s.B, kind.Text())
		return api.Step{Kind: s.Kind, A: a, B: b, C: c.add(s.C, kind.Text()), Sep: strings.Clone(s.Sep)}, fault{}
	}
}

func takeJoin(c *columns) taker {
	return func(s api.StepDecl) (api.Step, fault) {
		a, b := c.tagOf(s.A), c.tagOf(s.B)
		switch {
		case a == 0 || b == 0:
			return refuse(s, api.ErrName)
		case a == b:
			return refuse(s, api.ErrTaken)
		case c.kindOf(a) != kind.Text() || c.kindOf(b) != kind.Text():
			return refuse(s, api.ErrKinds)
		case !isText(s.Sep):
			return refuse(s, api.ErrValue)
		}
		c.drop(a)
		c.drop(b)
		switch {
		case c.tagOf(s.C) != 0:
			return refuse(s, api.ErrTaken)
		case !c.hasRoom(1):
			return refuse(s, api.ErrMany)
		}
		return api.Step{Kind: s.Kind, A: a, B: b, C: c.add(s.C, kind.Text()), Sep: strings.Clone(s.Sep)}, fault{}
	}
}

func takeRetype(c *columns) taker {
	return func(s api.StepDecl) (api.Step, fault) {
		a, k := c.tagOf(s.A), kind.Of(s.Type)
		if a == 0 || k == 0 {
			return refuse(s, api.ErrName)
		}
		number := conv.Between(c.kindOf(a), k)
		if number == 0 {
			return refuse(s, api.ErrConv)
		}
		c.retype(a, conv.To(number))
		return api.Step{Kind: s.Kind, A: a, Conv: number}, fault{}
	}
}

func takeDrop(c *columns) taker {
	return func(s api.StepDecl) (api.Step, fault) {
		a := c.tagOf(s.A)
		if a == 0 {
			return refuse(s, api.ErrName)
		}
		c.drop(a)
		return api.Step{Kind: s.Kind, A: a}, fault{}
	}
}
