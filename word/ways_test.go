package word

import (
	"go/ast"
	"go/parser"
	"go/token"
	"testing"
)

func source(t *testing.T) *ast.File {
	t.Helper()
	f, err := parser.ParseFile(token.NewFileSet(), "word.go", nil, 0)
	if err != nil {
		t.Fatal(err)
	}
	return f
}

// counted tells whether the constant, and with it its group, counts by iota.
func counted(f *ast.File, name string) bool {
	for _, d := range f.Decls {
		g, ok := d.(*ast.GenDecl)
		if !ok || g.Tok != token.CONST {
			continue
		}
		first := g.Specs[0].(*ast.ValueSpec)
		if first.Names[0].Name != name || len(first.Values) != 1 {
			continue
		}
		v, ok := first.Values[0].(*ast.Ident)
		return ok && v.Name == "iota"
	}
	return false
}

// Ways: tags are constants that count; kinds are too.
func TestConstantsCount(t *testing.T) {
	f := source(t)
	for _, name := range []string{"Small", "Cons"} {
		if !counted(f, name) {
			t.Errorf("%s does not begin a group that counts", name)
		}
	}
}

// Ways: headers are packed by shifts.
func TestHeadersAreShifted(t *testing.T) {
	shifts := 0
	for _, d := range source(t).Decls {
		f, ok := d.(*ast.FuncDecl)
		if !ok || f.Name.Name != "Make" {
			continue
		}
		ast.Inspect(f, func(n ast.Node) bool {
			if b, ok := n.(*ast.BinaryExpr); ok && b.Op == token.SHL {
				shifts++
			}
			return true
		})
	}
	if shifts == 0 {
		t.Error("Make does not shift")
	}
}

// The map: the lowest layer calls nothing but api.
func TestImports(t *testing.T) {
	for _, i := range source(t).Imports {
		if i.Path.Value != `"tenement/api"` {
			t.Errorf("word imports %s", i.Path.Value)
		}
	}
}
