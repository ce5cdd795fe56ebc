package check

import (
	"cmp"
	"slices"

	"stratum/api"
	"stratum/tree"
)

// cellsOf: how many columns all versions of a history have together.
func cellsOf(h api.History) int {
	cells := 0
	for _, t := range h.Types {
		for _, v := range t.Versions {
			cells += len(v.Columns)
		}
	}
	return cells
}

func stepsIn(t api.Type) int {
	steps := 0
	for _, v := range t.Versions {
		steps += len(v.Steps)
	}
	return steps
}

// isType: whether a type can stand in a history, if it is alone in it.
func isType(t api.Type) bool {
	if !tree.IsName(t.Name) || len(t.Versions) == 0 || len(t.Versions) > api.MaxVersions || stepsIn(t) > api.MaxSteps {
		return false
	}
	f := newFollowing()
	for i, v := range t.Versions {
		f.first, f.naming = i == 0, namingOf(v)
		if !f.follows(v) {
			return false
		}
	}
	return true
}

// following is a type in the midst of the look at it.
type following struct {
	columns   *columns
	first     bool   // whether the version that is looked at is the first one
	naming    naming // that version's
	followers [api.StepDrop + 1]follower
}

func newFollowing() *following {
	f := &following{columns: newColumns()}
	f.followers = followersOf(f)
	return f
}

// follows: whether a version can stand behind the columns that there are; these become its own.
func (f *following) follows(v api.Version) bool {
	for _, col := range v.Columns {
		if !tree.IsName(col.Name) {
			return false
		}
	}
	for i, s := range v.Steps {
		if s.Kind < api.StepAdd || s.Kind > api.StepDrop || !f.followers[s.Kind](i, s) {
			return false
		}
	}
	return f.columns.are(v.Columns)
}

// naming knows the names that a version tells of its columns.
type naming struct {
	behind []api.Column // those that are there behind it
	last   map[int]int  // by the tags of the columns that are renamed: which of the steps renames it last
}

func namingOf(v api.Version) naming {
	n := naming{behind: v.Columns, last: map[int]int{}}
	for i, s := range v.Steps {
		if s.Kind == api.StepRename {
			n.last[s.A] = i
		}
	}
	return n
}

// from is the name that the i-th step gives a column: the one that it has behind the version, if it has it from here
// on; else it could be any, which is "". (Where the columns behind the version don't stand in the order of their tags
// this may miss one; but then the version is refused for that.)
func (n naming) from(i int, tag int) string {
	if n.last[tag] > i {
		return ""
	}
	at, found := slices.BinarySearchFunc(n.behind, tag, func(col api.Column, tag int) int { return cmp.Compare(col.Tag, tag) })
	if !found {
		return ""
	}
	return n.behind[at].Name
}
