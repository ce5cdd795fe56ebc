package check

import (
	"stratum/api"
	"stratum/conv"
	"stratum/kind"
)

// follower does a version's i-th step to the columns, and answers whether it can stand there.
type follower func(i int, s api.Step) bool

// followersOf are those of a type's steps, at the places of their Kinds.
func followersOf(f *following) [api.StepDrop + 1]follower {
	return [...]follower{
		api.StepAdd:    followAdd(f),
		api.StepRename: followRename(f),
		api.StepSplit:  followSplit(f),
		api.StepJoin:   followJoin(f),
		api.StepRetype: followRetype(f.columns),
		api.StepDrop:   followDrop(f.columns),
	}
}

// gets makes the column that the i-th step makes, if its tag is the next one and its name isn't taken.
func (f *following) gets(i int, tag int, k int) bool {
	name := f.naming.from(i, tag)
	if tag != f.columns.nextTag() || !f.columns.hasRoom(1) || f.columns.tagOf(name) != 0 {
		return false
	}
	f.columns.add(name, k)
	return true
}

// losesText drops a column, if it is there and is a text.
func (f *following) losesText(tag int) bool {
	if !f.columns.has(tag) || !f.columns.canBe(tag, kind.Text()) {
		return false
	}
	f.columns.drop(tag)
	return true
}

func followAdd(f *following) follower {
	return func(i int, s api.Step) bool {
		if s != (api.Step{Kind: s.Kind, A: s.A, Val: s.Val}) {
			return false
		}
		fits := isDefault(s.Val)
		if f.first {
			fits = s.Val == api.Value{} // so its kind is 0, that of a column whose kind could be any
		}
		return fits && f.gets(i, s.A, s.Val.Kind)
	}
}

// isDefault: whether an expression can have this value. Bytes are written with two digits for each.
func isDefault(v api.Value) bool {
	digits := len(v.S)
	if v.Kind == kind.Bytes() {
		digits *= 2
	}
	return kind.Valid(v) && digits <= api.MaxValue
}

func followRename(f *following) follower {
	return func(i int, s api.Step) bool {
		c, name := f.columns, f.naming.from(i, s.A)
		if s != (api.Step{Kind: s.Kind, A: s.A}) || !c.has(s.A) || c.tagOf(name) != 0 {
			return false
		}
		c.rename(s.A, name)
		return true
	}
}

func followSplit(f *following) follower {
	return func(i int, s api.Step) bool {
		if s != (api.Step{Kind: s.Kind, A: s.A, B: s.B, C: s.C, Sep: s.Sep}) || s.Sep == "" || !isText(s.Sep) {
			return false
		}
		return f.losesText(s.A) && f.gets(i, s.B, kind.Text()) && f.gets(i, s.C, kind.Text())
	}
}

func followJoin(f *following) follower {
	return func(i int, s api.Step) bool {
		if s != (api.Step{Kind: s.Kind, A: s.A, B: s.B, C: s.C, Sep: s.Sep}) || !isText(s.Sep) {
			return false
		}
		return f.losesText(s.A) && f.losesText(s.B) && f.gets(i, s.C, kind.Text())
	}
}

func followRetype(c *columns) follower {
	return func(i int, s api.Step) bool {
		from := conv.From(s.Conv)
		if s != (api.Step{Kind: s.Kind, A: s.A, Conv: s.Conv}) || from == 0 || !c.has(s.A) || !c.canBe(s.A, from) {
			return false
		}
		c.retype(s.A, conv.To(s.Conv))
		return true
	}
}

func followDrop(c *columns) follower {
	return func(i int, s api.Step) bool {
		if s != (api.Step{Kind: s.Kind, A: s.A}) || !c.has(s.A) {
			return false
		}
		c.drop(s.A)
		return true
	}
}
