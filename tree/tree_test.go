package tree_test

import (
	"slices"
	"strings"
	"testing"

	"stratum/api"
	"stratum/tree"
)

func isOne(nodes []api.Node) bool { return len(nodes) == 1 }

func schema(steps ...api.StepDecl) api.Schema {
	return api.Schema{Events: []api.EventDecl{
		{Name: "a", Versions: []api.VersionDecl{{Number: 7}}},
		{Name: "a", Versions: []api.VersionDecl{{}, {Number: 7, Steps: steps}}},
	}}
}

// every is a step of each kind.
func every() []api.StepDecl {
	return []api.StepDecl{
		{Kind: api.StepAdd, A: "a", Type: "t"}, {Kind: api.StepAdd, A: "a", Type: "t", Value: make([]api.Node, 1)}, {Kind: api.StepRename, A: "a", B: "b"}, {Kind: api.StepSplit, A: "a", B: "b", C: "c", Sep: "\xff"},
		{Kind: api.StepJoin, A: "a", B: "b", C: "c"}, {Kind: api.StepRetype, A: "a", Type: "t"}, {Kind: api.StepDrop, A: "a"},
	}
}

func wantTree(t *testing.T, s api.Schema, want bool) {
	t.Helper()
	if got := tree.Is(s, isOne); got != want {
		t.Errorf("%v: %v", s, got)
	}
}

func TestTrees(t *testing.T) {
	wantTree(t, api.Schema{}, true)
	wantTree(t, schema(), true)
	wantTree(t, schema(every()...), true)
	for i, s := range every() {
		s.At = -i
		wantTree(t, schema(s), true)
		s.Value = slices.Clip(s.Value[:0])
		wantTree(t, schema(s), true)
	}
}

func TestNoTrees(t *testing.T) {
	wantTree(t, api.Schema{Events: []api.EventDecl{{Name: "a"}}}, false)
	wantTree(t, api.Schema{Events: []api.EventDecl{{Name: "to", Versions: make([]api.VersionDecl, 1)}}}, false)
	wantTree(t, api.Schema{Events: []api.EventDecl{{Versions: make([]api.VersionDecl, 1)}}}, false)
	for _, s := range every() {
		for _, kind := range []int{-1, 0, 7, 1<<32 + s.Kind} {
			other := s
			other.Kind = kind
			wantTree(t, schema(other), false)
		}
		for _, at := range []*string{&s.A, &s.B, &s.C, &s.Type, &s.Sep} {
			was, isSep := *at, at == &s.Sep
			for _, text := range []string{"", "x", "to", "1"} {
				*at = text
				anySep := isSep && (s.Kind == api.StepSplit || s.Kind == api.StepJoin)
				wantTree(t, schema(every()[0], s, every()[1]), anySep || (text == "") == (was == "") && (text == "" || text == "x"))
			}
			*at = was
		}
		for _, nodes := range [][]api.Node{make([]api.Node, 1), make([]api.Node, 2)} {
			other := s
			other.Value = nodes
			wantTree(t, schema(other, s), len(nodes) == 1 && s.Kind == api.StepAdd)
		}
	}
}

func TestNames(t *testing.T) {
	for _, s := range []string{"a", "_", "Z9", "uint", "Event", "events", "too", strings.Repeat("n", 64)} {
		if !tree.IsName(s) {
			t.Errorf("%s is a name", s)
		}
	}
	for _, s := range append(strings.Fields("event version add rename split join retype drop to at into with true false cat rep len hex"), "", " ", "1", "a b", "é", "a-", strings.Repeat("n", 65)) {
		if tree.IsName(s) {
			t.Errorf("%s is no name", s)
		}
	}
}
