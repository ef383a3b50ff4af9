package runes

import (
	"go/ast"
	"go/parser"
	"go/token"
	"testing"
)

func source(t *testing.T) *ast.File {
	t.Helper()
	f, err := parser.ParseFile(token.NewFileSet(), "runes.go", nil, 0)
	if err != nil {
		t.Fatal(err)
	}
	return f
}

// ranged tells whether the function of that name has a range.
func ranged(f *ast.File, name string) bool {
	found := false
	for _, d := range f.Decls {
		x, ok := d.(*ast.FuncDecl)
		if !ok || x.Name.Name != name {
			continue
		}
		ast.Inspect(x, func(n ast.Node) bool {
			_, is := n.(*ast.RangeStmt)
			found = found || is
			return true
		})
	}
	return found
}

// Ways: texts are walked by a range over a string. (The functions take nothing but strings that could be ranged over.)
func TestTextsAreRangedOver(t *testing.T) {
	f := source(t)
	for _, name := range []string{"Count", "Plain", "Quote", "readBare", "readQuoted", "Less", "Reverse"} {
		if !ranged(f, name) {
			t.Errorf("%s does not range over its text", name)
		}
	}
}

// The map: this layer calls nothing of the project but api.
func TestImports(t *testing.T) {
	given := map[string]bool{`"cmp"`: true, `"strconv"`: true, `"strings"`: true, `"unicode/utf8"`: true, `"tenement/api"`: true}
	for _, i := range source(t).Imports {
		if !given[i.Path.Value] {
			t.Errorf("runes imports %s", i.Path.Value)
		}
	}
}
