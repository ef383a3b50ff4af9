package order

import (
	"go/ast"
	"go/parser"
	"go/token"
	"testing"
)

func sources(t *testing.T) []*ast.File {
	t.Helper()
	var files []*ast.File
	for _, name := range []string{"order.go", "walk.go"} {
		f, err := parser.ParseFile(token.NewFileSet(), name, nil, 0)
		if err != nil {
			t.Fatal(err)
		}
		files = append(files, f)
	}
	return files
}

// methods are the names of those that the package has.
func methods(files []*ast.File) map[string]int {
	all := map[string]int{}
	for _, f := range files {
		for _, d := range f.Decls {
			if x, ok := d.(*ast.FuncDecl); ok && x.Recv != nil {
				all[x.Name.Name]++
			}
		}
	}
	return all
}

// Ways: parts are compared by method values in a row of kinds: one place a kind, a method's value at each.
func TestRowOfKinds(t *testing.T) {
	files := sources(t)
	known := methods(files)
	kinds := map[string]int{}
	for _, f := range files {
		ast.Inspect(f, func(n ast.Node) bool {
			x, ok := n.(*ast.KeyValueExpr)
			if !ok {
				return true
			}
			place, is := x.Key.(*ast.SelectorExpr)
			value, of := x.Value.(*ast.SelectorExpr)
			if is && of && known[value.Sel.Name] > 0 {
				kinds[place.Sel.Name]++
			}
			return true
		})
	}
	for _, name := range []string{"Int", "Atom", "Ref", "Pid", "Tuple", "Nil", "Cons", "Bin"} {
		if kinds[name] != 1 {
			t.Errorf("%s has %d method values in the row of kinds", name, kinds[name])
		}
	}
}

// The map of layers: this one calls term, runes and big, and nothing else of the project but api.
func TestImports(t *testing.T) {
	given := map[string]int{`"bytes"`: 0, `"cmp"`: 0, `"slices"`: 0, `"tenement/api"`: 0, `"tenement/big"`: 0, `"tenement/runes"`: 0, `"tenement/term"`: 0}
	for _, f := range sources(t) {
		for _, i := range f.Imports {
			if _, ok := given[i.Path.Value]; !ok {
				t.Errorf("order imports %s", i.Path.Value)
			}
			given[i.Path.Value]++
		}
	}
	for _, name := range []string{`"tenement/big"`, `"tenement/runes"`, `"tenement/term"`} {
		if given[name] == 0 {
			t.Errorf("order does not call %s", name)
		}
	}
}
