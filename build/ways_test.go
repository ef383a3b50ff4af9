package build

import (
	"go/ast"
	"go/parser"
	"go/token"
	"slices"
	"testing"
)

func sources(t *testing.T) []*ast.File {
	t.Helper()
	var files []*ast.File
	for _, name := range []string{"build.go", "put.go", "get.go"} {
		f, err := parser.ParseFile(token.NewFileSet(), name, nil, 0)
		if err != nil {
			t.Fatal(err)
		}
		files = append(files, f)
	}
	return files
}

// Ways: who holds bytes is an interface, whose Grant and Look answer whether there is something.
func TestBytesIsAnInterface(t *testing.T) {
	found := false
	for _, f := range sources(t) {
		ast.Inspect(f, func(n ast.Node) bool {
			x, ok := n.(*ast.TypeSpec)
			if !ok || x.Name.Name != "Bytes" {
				return true
			}
			face, ok := x.Type.(*ast.InterfaceType)
			found = ok && len(face.Methods.List) == 3
			return false
		})
	}
	if !found {
		t.Error("Bytes is no interface of three methods")
	}
}

// asked are the calls of these methods of who holds bytes, and those of them whose two answers are both kept.
func asked(files []*ast.File, name string) (calls, twoValued int) {
	is := func(e ast.Expr) bool {
		c, ok := e.(*ast.CallExpr)
		if !ok {
			return false
		}
		s, ok := c.Fun.(*ast.SelectorExpr)
		if !ok || s.Sel.Name != name {
			return false
		}
		of, ok := s.X.(*ast.Ident)
		return ok && of.Name == "in"
	}
	for _, f := range files {
		ast.Inspect(f, func(n ast.Node) bool {
			if e, ok := n.(ast.Expr); ok && is(e) {
				calls++
			}
			if a, ok := n.(*ast.AssignStmt); ok && len(a.Rhs) == 1 && is(a.Rhs[0]) && len(a.Lhs) == 2 {
				if x, ok := a.Lhs[1].(*ast.Ident); ok && x.Name != "_" {
					twoValued++
				}
			}
			return true
		})
	}
	return calls, twoValued
}

// Ways: it is asked two-valued.
func TestBytesAreAskedTwoValued(t *testing.T) {
	for _, name := range []string{"Grant", "Look"} {
		if calls, two := asked(sources(t), name); calls != 1 || two != 1 {
			t.Errorf("%s is called %d times, two-valued %d times", name, calls, two)
		}
	}
}

// What comes in as an interface is asked by its methods alone, never for what it is.
func TestNoAssertions(t *testing.T) {
	for _, f := range sources(t) {
		ast.Inspect(f, func(n ast.Node) bool {
			if _, ok := n.(*ast.TypeAssertExpr); ok {
				t.Error("a type assertion")
			}
			return true
		})
	}
}

// spoken are the functions and methods of the package, each with those of them that it calls: a method's name with its receiver's ahead.
func spoken(t *testing.T) map[string][]string {
	all := map[string][]string{}
	for _, f := range sources(t) {
		for _, d := range f.Decls {
			x, ok := d.(*ast.FuncDecl)
			if !ok {
				continue
			}
			name := x.Name.Name
			if x.Recv != nil {
				name = x.Recv.List[0].Names[0].Name + "." + name
			}
			all[name] = nil
			ast.Inspect(x.Body, func(n ast.Node) bool {
				c, ok := n.(*ast.CallExpr)
				if !ok {
					return true
				}
				switch f := c.Fun.(type) {
				case *ast.Ident:
					all[name] = append(all[name], f.Name)
				case *ast.SelectorExpr:
					if of, ok := f.X.(*ast.Ident); ok {
						all[name] = append(all[name], of.Name+"."+f.Sel.Name)
					}
				}
				return true
			})
		}
	}
	return all
}

// Walks keep their own stack: no function comes back to itself, straight or by others.
func TestWalksKeepTheirOwnStack(t *testing.T) {
	all := spoken(t)
	for name := range all {
		var seen []string
		next := slices.Clone(all[name])
		for len(next) > 0 {
			n := next[0]
			next = next[1:]
			if n == name {
				t.Errorf("%s comes back to itself", name)
				break
			}
			if !slices.Contains(seen, n) {
				seen = append(seen, n)
				next = append(next, all[n]...)
			}
		}
	}
}

// The map of layers: this one calls word, arena, term, big and atoms, and nothing else of the project but api.
func TestImports(t *testing.T) {
	given := map[string]int{`"bytes"`: 0, `"math"`: 0, `"slices"`: 0, `"tenement/api"`: 0, `"tenement/word"`: 0, `"tenement/arena"`: 0, `"tenement/term"`: 0, `"tenement/big"`: 0, `"tenement/atoms"`: 0}
	for _, f := range sources(t) {
		for _, i := range f.Imports {
			if _, ok := given[i.Path.Value]; !ok {
				t.Errorf("build imports %s", i.Path.Value)
			}
			given[i.Path.Value]++
		}
	}
	for name, n := range given {
		if n == 0 {
			t.Errorf("build does not call %s", name)
		}
	}
}
