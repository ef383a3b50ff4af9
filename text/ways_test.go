package text

import (
	"go/ast"
	"go/parser"
	"go/token"
	"slices"
	"testing"
)

func sources(t *testing.T) []*ast.File {
	t.Helper()
	var files []*ast.File
	for _, name := range []string{"text.go", "print.go", "read.go"} {
		f, err := parser.ParseFile(token.NewFileSet(), name, nil, 0)
		if err != nil {
			t.Fatal(err)
		}
		files = append(files, f)
	}
	return files
}

// The text is printed and read with a stack of its own: no function comes back to itself, straight or by others. (Functions and methods go by their names.)
func TestNoCallInACall(t *testing.T) {
	all := map[string][]string{}
	for _, f := range sources(t) {
		for _, d := range f.Decls {
			if x, ok := d.(*ast.FuncDecl); ok {
				all[x.Name.Name] = append(all[x.Name.Name], called(x.Body)...)
			}
		}
	}
	for name := range all {
		seen := []string{}
		next := all[name]
		for len(next) > 0 {
			n := next[0]
			next = next[1:]
			if n == name {
				t.Errorf("%s calls itself", name)
				break
			}
			if !slices.Contains(seen, n) {
				seen = append(seen, n)
				next = append(next[:len(next):len(next)], all[n]...)
			}
		}
	}
}

// called are the names of what is called, but for functions of other packages.
func called(n ast.Node) []string {
	others := []string{"api", "big", "runes", "strconv", "term", "utf8"}
	var names []string
	ast.Inspect(n, func(n ast.Node) bool {
		c, ok := n.(*ast.CallExpr)
		if !ok {
			return true
		}
		switch f := c.Fun.(type) {
		case *ast.Ident:
			names = append(names, f.Name)
		case *ast.SelectorExpr:
			if of, ok := f.X.(*ast.Ident); !ok || !slices.Contains(others, of.Name) {
				names = append(names, f.Sel.Name)
			}
		}
		return true
	})
	return names
}

// Ways: assertions are two-valued, in printing and in reading.
func TestAssertionsAreTwoValued(t *testing.T) {
	for i, f := range sources(t) {
		all, two := 0, 0
		ast.Inspect(f, func(n ast.Node) bool {
			switch x := n.(type) {
			case *ast.TypeAssertExpr:
				all++
			case *ast.AssignStmt:
				if len(x.Lhs) == 2 && len(x.Rhs) == 1 {
					if _, ok := x.Rhs[0].(*ast.TypeAssertExpr); ok {
						two++
					}
				}
			}
			return true
		})
		if all != two || i > 0 && two == 0 {
			t.Errorf("file %d has %d assertions, %d of them two-valued", i, all, two)
		}
	}
}

// Ways: texts are read sign by sign, as runes: no byte of the rest is looked at, but whether a sign begins with it.
func TestTextsAreRunes(t *testing.T) {
	looks := 0
	for _, f := range sources(t) {
		ast.Inspect(f, func(n ast.Node) bool {
			if c, ok := n.(*ast.CallExpr); ok {
				if to, ok := c.Fun.(*ast.SelectorExpr); ok && to.Sel.Name == "RuneStart" {
					return false
				}
			}
			if x, ok := n.(*ast.IndexExpr); ok {
				if of, ok := x.X.(*ast.SelectorExpr); ok && of.Sel.Name == "rest" {
					looks++
				}
			}
			return true
		})
	}
	if looks > 0 {
		t.Errorf("%d bytes of the rest are looked at", looks)
	}
}

// The map of layers: this one calls term, runes and big, and nothing else of the project but api.
func TestImports(t *testing.T) {
	given := map[string]int{`"strconv"`: 0, `"unicode/utf8"`: 0, `"tenement/api"`: 0, `"tenement/big"`: 0, `"tenement/runes"`: 0, `"tenement/term"`: 0}
	for _, f := range sources(t) {
		for _, i := range f.Imports {
			if _, ok := given[i.Path.Value]; !ok {
				t.Errorf("text imports %s", i.Path.Value)
			}
			given[i.Path.Value]++
		}
	}
	for _, name := range []string{`"tenement/big"`, `"tenement/runes"`, `"tenement/term"`} {
		if given[name] == 0 {
			t.Errorf("text does not call %s", name)
		}
	}
}
