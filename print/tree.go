package print

import (
	"stratum/api"
	"stratum/grammar"
	"stratum/lex"
	"stratum/postorder"
)

// isTree: whether t is a tree, or would be one if none of its expressions were too deep.
func isTree(t api.Schema) bool {
	for _, e := range t.Events {
		if !isEvent(e) {
			return false
		}
	}
	return true
}

func isEvent(e api.EventDecl) bool {
	if !areNames(e.Name) || len(e.Versions) == 0 {
		return false
	}
	for _, v := range e.Versions {
		for _, s := range v.Steps {
			if !isStep(s) {
				return false
			}
		}
	}
	return true
}

func isStep(s api.StepDecl) bool {
	if len(s.Value) > 0 && (s.Kind != api.StepAdd || !isExpression(s.Value)) {
		return false
	}
	switch s.Kind {
	case api.StepAdd, api.StepRetype:
		return areNames(s.A, s.Type) && areEmpty(s.B, s.C, s.Sep)
	case api.StepRename:
		return areNames(s.A, s.B) && areEmpty(s.C, s.Sep, s.Type)
	case api.StepSplit, api.StepJoin:
		return areNames(s.A, s.B, s.C) && areEmpty(s.Type)
	case api.StepDrop:
		return areNames(s.A) && areEmpty(s.B, s.C, s.Sep, s.Type)
	}
	return false
}

// isExpression: whether nodes are one, however deep it is.
func isExpression(nodes []api.Node) bool {
	_, whole := postorder.Subtrees(nodes)
	return whole
}

func areNames(texts ...string) bool {
	for _, s := range texts {
		if !lex.Name(s) || grammar.IsWord(s) {
			return false
		}
	}
	return true
}

func areEmpty(texts ...string) bool {
	for _, s := range texts {
		if s != "" {
			return false
		}
	}
	return true
}
