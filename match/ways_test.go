package match

import (
	"go/ast"
	"go/parser"
	"go/token"
	"slices"
	"testing"
)

func sources(t *testing.T) []*ast.File {
	t.Helper()
	var files []*ast.File
	for _, name := range []string{"match.go", "walk.go"} {
		f, err := parser.ParseFile(token.NewFileSet(), name, nil, 0)
		if err != nil {
			t.Fatal(err)
		}
		files = append(files, f)
	}
	return files
}

// spoken are the functions and methods of the package, each with those of them that it calls: a method's name with its receiver's ahead.
func spoken(t *testing.T) map[string][]string {
	all := map[string][]string{}
	for _, f := range sources(t) {
		for _, d := range f.Decls {
			x, ok := d.(*ast.FuncDecl)
			if !ok {
				continue
			}
			name := x.Name.Name
			if x.Recv != nil {
				name = x.Recv.List[0].Names[0].Name + "." + name
			}
			all[name] = nil
			ast.Inspect(x.Body, func(n ast.Node) bool {
				c, ok := n.(*ast.CallExpr)
				if !ok {
					return true
				}
				switch f := c.Fun.(type) {
				case *ast.Ident:
					all[name] = append(all[name], f.Name)
				case *ast.SelectorExpr:
					if of, ok := f.X.(*ast.Ident); ok {
						all[name] = append(all[name], of.Name+"."+f.Sel.Name)
					}
				}
				return true
			})
		}
	}
	return all
}

// Ways: the walk keeps a stack of its own: no function comes back to itself, straight or by others.
func TestNoCallInACall(t *testing.T) {
	all := spoken(t)
	for name := range all {
		var seen []string
		next := slices.Clone(all[name])
		for len(next) > 0 {
			n := next[0]
			next = next[1:]
			if n == name {
				t.Errorf("%s comes back to itself", name)
				break
			}
			if !slices.Contains(seen, n) {
				seen = append(seen, n)
				next = append(next, all[n]...)
			}
		}
	}
}

// Ways: the walk's stack is a row of pairs of words, which it adds to and takes from.
func TestWalkHasAStack(t *testing.T) {
	found := false
	for _, f := range sources(t) {
		ast.Inspect(f, func(n ast.Node) bool {
			x, ok := n.(*ast.TypeSpec)
			if !ok || x.Name.Name != "walk" {
				return true
			}
			of, ok := x.Type.(*ast.StructType)
			for _, field := range of.Fields.List {
				row, is := field.Type.(*ast.ArrayType)
				found = found || ok && is && row.Len == nil && row.Elt.(*ast.Ident).Name == "pair"
			}
			return false
		})
	}
	if !found {
		t.Error("the walk keeps no row of pairs")
	}
}

// What comes in as an interface is asked by its methods alone, never for what it is.
func TestNoAssertions(t *testing.T) {
	for _, f := range sources(t) {
		ast.Inspect(f, func(n ast.Node) bool {
			switch n.(type) {
			case *ast.TypeAssertExpr, *ast.TypeSwitchStmt:
				t.Error("a type assertion")
			}
			return true
		})
	}
}

// The map of layers: this one calls word, arena, build, atoms, order and term at most, and nothing else of the project but api; what means what is asked of build, what comes first of order.
func TestImports(t *testing.T) {
	given := []string{`"slices"`, `"tenement/api"`, `"tenement/word"`, `"tenement/arena"`, `"tenement/build"`, `"tenement/atoms"`, `"tenement/order"`, `"tenement/term"`}
	for _, f := range sources(t) {
		for _, i := range f.Imports {
			if !slices.Contains(given, i.Path.Value) {
				t.Errorf("match imports %s", i.Path.Value)
			}
		}
	}
	var calls []string
	for _, l := range spoken(t) {
		calls = append(calls, l...)
	}
	for _, name := range []string{"build.Get", "order.Compare", "word.Read"} {
		if !slices.Contains(calls, name) {
			t.Errorf("match does not call %s", name)
		}
	}
}
