package step

import (
	"maps"
	"slices"
	"strings"

	"stratum/api"
	"stratum/conv"
	"stratum/kind"
	"stratum/part"
)

// fields are a record in the midst of its steps: its values by their tags. Each step leaves it a record, so that none
// has to look at more than the fields that it names. A step that can't be done, or fails, leaves it as it was.
type fields map[int]api.Value

func fieldsOf(rec []api.Field) fields {
	f := make(fields, len(rec))
	for _, x := range rec {
		f[x.Tag] = x.Val
	}
	return f
}

// list is the record in the order of its tags. Its texts may be those that were handed in.
func (f fields) list() []api.Field {
	rec := make([]api.Field, 0, len(f))
	for _, tag := range slices.Sorted(maps.Keys(f)) {
		rec = append(rec, api.Field{Tag: tag, Val: f[tag]})
	}
	return rec
}

// withOwnTexts puts copies in the place of all texts: an answer keeps nothing of what was handed in.
func withOwnTexts(rec []api.Field) []api.Field {
	for i := range rec {
		rec[i].Val.S = strings.Clone(rec[i].Val.S)
	}
	return rec
}

// doAll does steps, up to the first that answers an error.
func (f fields) doAll(steps []api.Step) api.Errno {
	for _, s := range steps {
		if err := f.do(s); err != api.OK {
			return err
		}
	}
	return api.OK
}

func (f fields) do(s api.Step) api.Errno {
	switch s.Kind {
	case api.StepAdd:
		return f.add(s)
	case api.StepRename:
		return f.rename(s)
	case api.StepSplit:
		return f.split(s)
	case api.StepJoin:
		return f.join(s)
	case api.StepRetype:
		return f.retype(s)
	case api.StepDrop:
		return f.drop(s)
	}
	return api.ErrTyped
}

func (f fields) add(s api.Step) api.Errno {
	if !f.isFree(s.A) || !kind.Valid(s.Val) {
		return api.ErrTyped
	}
	f[s.A] = s.Val
	return api.OK
}

// rename changes nothing: a record has no names.
func (f fields) rename(s api.Step) api.Errno {
	if !f.has(s.A) {
		return api.ErrTyped
	}
	return api.OK
}

func (f fields) split(s api.Step) api.Errno {
	if !f.isText(s.A) || !f.isFree(s.B) || !f.isFree(s.C) || s.B == s.C || s.Sep == "" || !isValidText(s.Sep) {
		return api.ErrTyped
	}
	whole := f[s.A].S
	delete(f, s.A)
	f[s.B] = textValue(part.Head(whole, s.Sep))
	f[s.C] = textValue(part.Tail(whole, s.Sep))
	return api.OK
}

func (f fields) join(s api.Step) api.Errno {
	if !f.isText(s.A) || !f.isText(s.B) || s.A == s.B || !f.isFree(s.C) || !isValidText(s.Sep) {
		return api.ErrTyped
	}
	first, second := f[s.A].S, f[s.B].S
	// Looked at ahead of joining: what is too long is never made.
	if len(first)+len(s.Sep)+len(second) > api.MaxRecord {
		return api.ErrLong
	}
	delete(f, s.A)
	delete(f, s.B)
	f[s.C] = textValue(part.Join(first, s.Sep, second))
	return api.OK
}

// retype looks for the field first: of one that isn't there the kind is 0 here, which a conversion that isn't there takes.
func (f fields) retype(s api.Step) api.Errno {
	if !f.has(s.A) || conv.From(s.Conv) != f[s.A].Kind {
		return api.ErrTyped
	}
	made, err := conv.Apply(s.Conv, f[s.A])
	if err != api.OK {
		return err
	}
	f[s.A] = made
	return api.OK
}

func (f fields) drop(s api.Step) api.Errno {
	if !f.has(s.A) {
		return api.ErrTyped
	}
	delete(f, s.A)
	return api.OK
}

func (f fields) has(tag int) bool {
	_, ok := f[tag]
	return ok
}

// isFree: whether a new field can have this tag.
func (f fields) isFree(tag int) bool {
	return tag >= 1 && tag <= api.MaxTag && !f.has(tag)
}

// isText: whether there is a field of this tag, and it is a text.
func (f fields) isText(tag int) bool {
	return f[tag].Kind == kind.Text()
}

func textValue(s string) api.Value {
	return api.Value{Kind: kind.Text(), S: s}
}

// isValidText: whether s is UTF-8.
func isValidText(s string) bool {
	return kind.Valid(textValue(s))
}
