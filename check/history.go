package check

import (
	"strings"

	"stratum/api"
)

// fault is an error and its place; the zero one is none.
type fault struct {
	at  int
	err api.Errno
}

func (f fault) is() bool {
	return f.err != api.OK
}

// typing is a type that is being made.
type typing struct {
	versions []api.Version
	columns  *columns
	steps    int // of all versions
	takers   [api.StepDrop + 1]taker
}

func newTyping() *typing {
	t := &typing{columns: newColumns()}
	t.takers = takersOf(t)
	return t
}

// inFirst: whether the version that is being made is the first one.
func (t *typing) inFirst() bool {
	return len(t.versions) == 0
}

// typesOf is what the events of a tree become, or the first fault.
func typesOf(t api.Schema) ([]api.Type, fault) {
	var types []api.Type
	seen := map[string]int{}
	cells := 0
	for _, e := range t.Events {
		if len(types) == api.MaxTypes {
			return nil, fault{e.At, api.ErrMany}
		}
		seen[e.Name]++
		if seen[e.Name] > 1 {
			return nil, fault{e.At, api.ErrTaken}
		}
		versions, f := versionsOf(e, &cells)
		if f.is() {
			return nil, f
		}
		types = append(types, api.Type{Name: strings.Clone(e.Name), Versions: versions})
	}
	return types, fault{}
}

// versionsOf counts on the cells of all types so far.
func versionsOf(e api.EventDecl, cells *int) ([]api.Version, fault) {
	t := newTyping()
	for _, v := range e.Versions {
		if f := t.version(v); f.is() {
			return nil, f
		}
		*cells += len(t.columns.tags())
		if *cells > api.MaxCells {
			return nil, fault{v.At, api.ErrMany}
		}
	}
	return t.versions, fault{}
}

func (t *typing) version(v api.VersionDecl) fault {
	switch ahead := len(t.versions); {
	case ahead == api.MaxVersions:
		return fault{v.At, api.ErrMany}
	case v.Number != uint64(ahead)+1:
		return fault{v.At, api.ErrOrder}
	}
	steps, f := t.stepsOf(v)
	if f.is() {
		return f
	}
	t.versions = append(t.versions, api.Version{Steps: steps, Columns: t.columns.list()})
	return fault{}
}

func (t *typing) stepsOf(v api.VersionDecl) ([]api.Step, fault) {
	var steps []api.Step
	for _, s := range v.Steps {
		if t.steps == api.MaxSteps {
			return nil, fault{s.At, api.ErrMany}
		}
		t.steps++
		step, f := t.takers[s.Kind](s)
		if f.is() {
			return nil, f
		}
		steps = append(steps, step)
	}
	return steps, fault{}
}
