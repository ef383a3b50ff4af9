package term

import (
	"go/ast"
	"go/parser"
	"go/token"
	"slices"
	"testing"
)

func sources(t *testing.T) []*ast.File {
	t.Helper()
	var files []*ast.File
	for _, name := range []string{"term.go", "walk.go"} {
		f, err := parser.ParseFile(token.NewFileSet(), name, nil, 0)
		if err != nil {
			t.Fatal(err)
		}
		files = append(files, f)
	}
	return files
}

// functions are those of the package, each with the names that it speaks of, called or handed on.
func functions(t *testing.T) map[string][]string {
	all := map[string][]string{}
	for _, f := range sources(t) {
		for _, d := range f.Decls {
			x, ok := d.(*ast.FuncDecl)
			if !ok {
				continue
			}
			if x.Recv != nil {
				t.Errorf("%s is a method", x.Name.Name)
			}
			all[x.Name.Name] = spokenOf(x.Body)
		}
	}
	return all
}

// spokenOf are the names in n, but for those of fields and of other packages.
func spokenOf(n ast.Node) []string {
	var names []string
	ast.Inspect(n, func(n ast.Node) bool {
		switch x := n.(type) {
		case *ast.SelectorExpr:
			names = append(names, spokenOf(x.X)...)
			return false
		case *ast.KeyValueExpr:
			names = append(names, spokenOf(x.Value)...)
			return false
		case *ast.Ident:
			names = append(names, x.Name)
		}
		return true
	})
	return names
}

// Ways: walks keep their own stack: no function comes back to itself, straight or by others.
func TestWalksKeepTheirOwnStack(t *testing.T) {
	all := functions(t)
	for name := range all {
		seen := []string{}
		next := all[name]
		for len(next) > 0 {
			n := next[0]
			next = next[1:]
			if n == name {
				t.Errorf("%s calls itself", name)
				break
			}
			if !slices.Contains(seen, n) {
				seen = append(seen, n)
				next = append(next[:len(next):len(next)], all[n]...)
			}
		}
	}
}

// Ways: makers are plain functions over structs: nobody points at a term.
func TestTermsAreValues(t *testing.T) {
	for _, f := range sources(t) {
		ast.Inspect(f, func(n ast.Node) bool {
			if p, ok := n.(*ast.StarExpr); ok {
				t.Errorf("a pointer: %v", p.X)
			}
			return true
		})
	}
}

// The map of layers: this one calls runes and big, and nothing else of the project but api.
func TestImports(t *testing.T) {
	given := map[string]int{`"bytes"`: 0, `"strings"`: 0, `"tenement/api"`: 0, `"tenement/big"`: 0, `"tenement/runes"`: 0}
	for _, f := range sources(t) {
		for _, i := range f.Imports {
			if _, ok := given[i.Path.Value]; !ok {
				t.Errorf("term imports %s", i.Path.Value)
			}
			given[i.Path.Value]++
		}
	}
	if given[`"tenement/big"`] == 0 || given[`"tenement/runes"`] == 0 {
		t.Error("term does not call big and runes")
	}
}
