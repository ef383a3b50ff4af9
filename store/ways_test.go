package store

import (
	"go/ast"
	"go/parser"
	"go/token"
	"go/types"
	"strings"
	"testing"
)

func source(t *testing.T) *ast.File {
	t.Helper()
	f, err := parser.ParseFile(token.NewFileSet(), "store.go", nil, 0)
	if err != nil {
		t.Fatal(err)
	}
	return f
}

// Ways: handles are asked two-valued: whatever takes one finds it by ask, and keeps both answers.
func TestHandlesAreAskedTwoValued(t *testing.T) {
	asks := 0
	ast.Inspect(source(t), func(n ast.Node) bool {
		switch x := n.(type) {
		case *ast.CallExpr:
			if isAsk(x) {
				asks++
			}
		case *ast.AssignStmt:
			if len(x.Rhs) == 1 && isAsk(x.Rhs[0]) && (len(x.Lhs) != 2 || isBlank(x.Lhs[0]) || isBlank(x.Lhs[1])) {
				t.Error("ask is called, and not both answers are kept")
			}
		}
		return true
	})
	if asks != 5 {
		t.Errorf("%d functions ask for a handle: Look, Hold, Drop, Count and Place do", asks)
	}
}

func isAsk(e ast.Expr) bool {
	c, ok := e.(*ast.CallExpr)
	if !ok {
		return false
	}
	f, ok := c.Fun.(*ast.SelectorExpr)
	return ok && f.Sel.Name == "ask"
}

func isBlank(e ast.Expr) bool {
	x, ok := e.(*ast.Ident)
	return ok && x.Name == "_"
}

// Ways: the table is a row with holes, of structs as values.
func TestTableIsARow(t *testing.T) {
	kinds := map[string]string{}
	ast.Inspect(source(t), func(n ast.Node) bool {
		if x, ok := n.(*ast.Field); ok && len(x.Names) > 0 {
			kinds[x.Names[0].Name] = types.ExprString(x.Type)
		}
		return true
	})
	if kinds["table"] != "[]place" || kinds["bytes"] != "[]byte" {
		t.Errorf("the table is a %s, the bytes are a %s", kinds["table"], kinds["bytes"])
	}
}

// The table is no longer than the greatest handle that there is.
func TestNoHolesAtTheEnd(t *testing.T) {
	s := of(t, 40, "a", "b", "c", "d", "e")
	for _, x := range []struct{ handle, length int }{{2, 5}, {4, 5}, {5, 3}, {1, 3}, {3, 0}} {
		drop(t, s, x.handle, true)
		if len(s.table) != x.length {
			t.Errorf("behind Drop(%d) the table has %d places, want %d", x.handle, len(s.table), x.length)
		}
	}
}

// The map of layers: this one calls none of the project but api.
func TestImports(t *testing.T) {
	for _, i := range source(t).Imports {
		path := strings.Trim(i.Path.Value, `"`)
		if strings.HasPrefix(path, "tenement/") && path != "tenement/api" {
			t.Errorf("store imports %s", path)
		}
	}
}
