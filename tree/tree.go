// Package tree tells what a schema's tree is, for the layers that print trees and check them.
package tree

import (
	"stratum/api"
	"stratum/grammar"
	"stratum/lex"
)

// Is: whether t is a tree. What an expression is the caller says, since the layers don't look at it alike: to some of
// them one that is too deep is an expression still.
func Is(t api.Schema, isExpression func([]api.Node) bool) bool {
	for _, e := range t.Events {
		if !isEvent(e, isExpression) {
			return false
		}
	}
	return true
}

// IsName: whether a text can stand as a name in a tree.
func IsName(s string) bool {
	return lex.Name(s) && !grammar.IsWord(s)
}

func isEvent(e api.EventDecl, isExpression func([]api.Node) bool) bool {
	if !IsName(e.Name) || len(e.Versions) == 0 {
		return false
	}
	for _, v := range e.Versions {
		for _, s := range v.Steps {
			if !isStep(s) || len(s.Value) > 0 && !isExpression(s.Value) {
				return false
			}
		}
	}
	return true
}

// isStep: whether s has what its Kind has in the grammar and nothing else, whatever the nodes of its Value are.
func isStep(s api.StepDecl) bool {
	if len(s.Value) > 0 && s.Kind != api.StepAdd {
		return false
	}
	switch s.Kind {
	case api.StepAdd, api.StepRetype:
		return areNames(s.A, s.Type) && areEmpty(s.B, s.C, s.Sep)
	case api.StepRename:
		return areNames(s.A, s.B) && areEmpty(s.C, s.Sep, s.Type)
	case api.StepSplit, api.StepJoin:
		return areNames(s.A, s.B, s.C) && areEmpty(s.Type)
	case api.StepDrop:
		return areNames(s.A) && areEmpty(s.B, s.C, s.Sep, s.Type)
	}
	return false
}

func areNames(texts ...string) bool {
	for _, s := range texts {
		if !IsName(s) {
			return false
		}
	}
	return true
}

func areEmpty(texts ...string) bool {
	for _, s := range texts {
		if s != "" {
			return false
		}
	}
	return true
}
