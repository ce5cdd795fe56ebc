package chain_test

import (
	"errors"
	"go/ast"
	"go/parser"
	"go/token"
	"go/types"
	"path/filepath"
	"strconv"
	"strings"
	"testing"
)

// The form of what is kept from the start (DOC.md, "What stands when main begins") no call can tell; it is read from
// the packages' texts. This folder has tests alone, for all packages of the chain.

// link is a package of the chain that is built: how many variables its start makes.
type link struct {
	name string
	made int
}

// links are the packages of the chain, each of which imports the one ahead of it.
func links() []link {
	return []link{
		{"kind", 7}, // five numbers, Base, Width
		{"conv", 1}, // Base
		{"step", 1}, // Base
	}
}

// written is a package as it is written.
type written struct {
	files []*ast.File
	info  *types.Info
	kept  map[types.Object]ast.Expr      // the variables that a call makes
	funcs map[types.Object]*ast.FuncDecl // what a call may reach
}

// alone refuses all imports: only the package's own names are looked up.
type alone struct{}

func (alone) Import(path string) (*types.Package, error) {
	return nil, errors.New("not looked up: " + path)
}

func readWritten(t *testing.T, folder string) written {
	t.Helper()
	names, err := filepath.Glob(filepath.Join(folder, "*.go"))
	if err != nil {
		t.Fatal(err)
	}
	x := written{
		info:  &types.Info{Defs: map[*ast.Ident]types.Object{}, Uses: map[*ast.Ident]types.Object{}},
		kept:  map[types.Object]ast.Expr{},
		funcs: map[types.Object]*ast.FuncDecl{},
	}
	set := token.NewFileSet()
	for _, name := range names {
		if strings.HasSuffix(name, "_test.go") {
			continue
		}
		f, err := parser.ParseFile(set, name, nil, 0)
		if err != nil {
			t.Fatal(err)
		}
		x.files = append(x.files, f)
	}
	c := types.Config{Importer: alone{}, Error: func(error) {}}
	c.Check(folder, set, x.files, x.info)
	return x
}

// hasCall: whether a call stands anywhere in this piece.
func hasCall(n ast.Node) bool {
	found := false
	ast.Inspect(n, func(n ast.Node) bool {
		_, call := n.(*ast.CallExpr)
		found = found || call
		return true
	})
	return found
}

// isPlainCall: whether this is f(..) or p.f(..), with no other call in it.
func isPlainCall(e ast.Expr) bool {
	c, ok := e.(*ast.CallExpr)
	if !ok {
		return false
	}
	for _, a := range c.Args {
		if hasCall(a) {
			return false
		}
	}
	switch c.Fun.(type) {
	case *ast.Ident, *ast.SelectorExpr:
		return true
	}
	return false
}

// gather puts the package's functions, and its variables that calls make, into their maps.
func (x written) gather(t *testing.T) {
	t.Helper()
	for _, f := range x.files {
		for _, d := range f.Decls {
			switch d := d.(type) {
			case *ast.FuncDecl:
				x.funcs[x.info.Defs[d.Name]] = d
			case *ast.GenDecl:
				for _, s := range d.Specs {
					if v, ok := s.(*ast.ValueSpec); ok && d.Tok == token.VAR {
						x.keep(t, v)
					}
				}
			}
		}
	}
}

func (x written) keep(t *testing.T, v *ast.ValueSpec) {
	t.Helper()
	for _, e := range v.Values {
		if !hasCall(e) {
			continue
		}
		if len(v.Names) != 1 || !isPlainCall(e) {
			t.Errorf("%s isn't made by one plain call in its own declaration", v.Names[0].Name)
		}
		x.kept[x.info.Defs[v.Names[0]]] = e
	}
}

// root is the name at the front of x.y[z] and the like.
func root(e ast.Expr) *ast.Ident {
	for {
		switch y := e.(type) {
		case *ast.Ident:
			return y
		case *ast.SelectorExpr:
			e = y.X
		case *ast.IndexExpr:
			e = y.X
		case *ast.StarExpr:
			e = y.X
		case *ast.ParenExpr:
			e = y.X
		default:
			return nil
		}
	}
}

// changed are the pieces that a node gives a new value, or whose address it takes.
func changed(n ast.Node) []ast.Expr {
	switch n := n.(type) {
	case *ast.AssignStmt:
		return n.Lhs
	case *ast.IncDecStmt:
		return []ast.Expr{n.X}
	case *ast.RangeStmt:
		return []ast.Expr{n.Key, n.Value}
	case *ast.UnaryExpr:
		if n.Op == token.AND {
			return []ast.Expr{n.X}
		}
	}
	return nil
}

// reads looks whether the call that makes a variable comes upon another one, through all functions of the package.
func (x written) reads(t *testing.T, name string, n ast.Node, seen map[types.Object]bool) {
	t.Helper()
	ast.Inspect(n, func(n ast.Node) bool {
		id, ok := n.(*ast.Ident)
		if !ok {
			return true
		}
		o := x.info.Uses[id]
		if x.kept[o] != nil {
			t.Errorf("the call that makes %s reads %s", name, id.Name)
		}
		if f := x.funcs[o]; f != nil && !seen[o] {
			seen[o] = true
			x.reads(t, name, f, seen)
		}
		return true
	})
}

// asks: whether the call that makes a variable asks another package's function, itself or through its own functions.
func (x written) asks(pack string, name string, n ast.Node, seen map[types.Object]bool) bool {
	found := false
	ast.Inspect(n, func(n ast.Node) bool {
		switch n := n.(type) {
		case *ast.SelectorExpr:
			p, ok := n.X.(*ast.Ident)
			found = found || ok && p.Name == pack && n.Sel.Name == name
		case *ast.Ident:
			o := x.info.Uses[n]
			if f := x.funcs[o]; f != nil && !seen[o] {
				seen[o] = true
				found = found || x.asks(pack, name, f, seen)
			}
		}
		return true
	})
	return found
}

// asksAtTheStart: whether one of the calls that make the variables asks another package's function.
func (x written) asksAtTheStart(pack string, name string) bool {
	for _, call := range x.kept {
		if x.asks(pack, name, call, map[types.Object]bool{}) {
			return true
		}
	}
	return false
}

// changes looks for a change of what is kept, anywhere in the package.
func (x written) changes(t *testing.T) {
	t.Helper()
	for _, f := range x.files {
		ast.Inspect(f, func(n ast.Node) bool {
			for _, e := range changed(n) {
				if id := root(e); id != nil && x.kept[x.info.Uses[id]] != nil {
					t.Errorf("%s is changed behind the start, or its address taken", id.Name)
				}
			}
			return true
		})
	}
}

// imports: whether one of the package's files imports this one.
func (x written) imports(path string) bool {
	for _, f := range x.files {
		for _, s := range f.Imports {
			if s.Path.Value == strconv.Quote(path) {
				return true
			}
		}
	}
	return false
}

func TestTheStartIsKeptInVariablesThatCallsMake(t *testing.T) {
	for _, l := range links() {
		t.Run(l.name, func(t *testing.T) {
			x := readWritten(t, filepath.Join("..", l.name))
			x.gather(t)
			if len(x.kept) != l.made {
				t.Errorf("%d variables are made at the start, not %d", len(x.kept), l.made)
			}
			for o, call := range x.kept {
				x.reads(t, o.Name(), call, map[types.Object]bool{})
			}
			x.changes(t)
		})
	}
}

func TestEachPackageImportsTheOneAhead(t *testing.T) {
	ahead := ""
	for _, l := range links() {
		if ahead != "" && !readWritten(t, filepath.Join("..", l.name)).imports("stratum/"+ahead) {
			t.Errorf("%s doesn't import %s", l.name, ahead)
		}
		ahead = l.name
	}
}

func TestBaseIsMadeOfWhatThePackageAheadHas(t *testing.T) {
	ahead := ""
	for _, l := range links() {
		x := readWritten(t, filepath.Join("..", l.name))
		x.gather(t)
		for _, name := range []string{"Base", "Entries"} {
			if ahead != "" && !x.asksAtTheStart(ahead, name) {
				t.Errorf("no variable of %s is made out of %s.%s", l.name, ahead, name)
			}
		}
		ahead = l.name
	}
}
