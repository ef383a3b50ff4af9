package atoms

import (
	"go/ast"
	"go/parser"
	"go/token"
	"testing"
)

func source(t *testing.T) *ast.File {
	t.Helper()
	f, err := parser.ParseFile(token.NewFileSet(), "atoms.go", nil, 0)
	if err != nil {
		t.Fatal(err)
	}
	return f
}

// Ways: the table is a map and a row beside it.
func TestTableIsAMapAndARow(t *testing.T) {
	maps, rows, others := 0, 0, 0
	ast.Inspect(source(t), func(n ast.Node) bool {
		s, ok := n.(*ast.TypeSpec)
		if !ok || s.Name.Name != "Table" {
			return true
		}
		for _, field := range s.Type.(*ast.StructType).Fields.List {
			switch field.Type.(type) {
			case *ast.MapType:
				maps++
			case *ast.ArrayType:
				rows++
			default:
				others++
			}
		}
		return false
	})
	if maps != 1 || rows != 1 || others != 0 {
		t.Errorf("a Table has %d maps, %d rows, %d others", maps, rows, others)
	}
}

// Ways: what is in the one is in the other, also behind puts that were refused.
func TestMapAndRowAgree(t *testing.T) {
	a := New()
	for _, s := range []string{"a", "b", "a", "\xff", long("é"), "", "c"} {
		a.Put(s)
	}
	if len(a.numbers) != 4 || len(a.names) != 4 {
		t.Errorf("%d in the map, %d in the row", len(a.numbers), len(a.names))
	}
	for n, s := range a.names {
		if a.numbers[s] != n {
			t.Errorf("%q is %d in the row, %d in the map", s, n, a.numbers[s])
		}
	}
}

// The map of layers: this one calls runes, and nothing else of the project but api.
func TestImports(t *testing.T) {
	given := map[string]bool{`"strings"`: true, `"tenement/api"`: true, `"tenement/runes"`: true}
	calls := false
	for _, i := range source(t).Imports {
		if !given[i.Path.Value] {
			t.Errorf("atoms imports %s", i.Path.Value)
		}
		calls = calls || i.Path.Value == `"tenement/runes"`
	}
	if !calls {
		t.Error("atoms does not call runes")
	}
}
