package arena

import (
	"go/ast"
	"go/parser"
	"go/token"
	"testing"
)

func source(t *testing.T) *ast.File {
	t.Helper()
	f, err := parser.ParseFile(token.NewFileSet(), "arena.go", nil, 0)
	if err != nil {
		t.Fatal(err)
	}
	return f
}

// Ways: what asks for a place answers whether it is there, and what answers something answers that beside it.
func TestPlacesAreTwoValued(t *testing.T) {
	results := map[string][]string{"Get": {"api.Word", "bool"}, "Set": {"bool"}, "Take": {"int", "bool"}, "Cut": {"bool"}, "Objects": {"[]int", "bool"}}
	for _, d := range source(t).Decls {
		f, ok := d.(*ast.FuncDecl)
		if !ok || results[f.Name.Name] == nil {
			continue
		}
		want := results[f.Name.Name]
		delete(results, f.Name.Name)
		if len(f.Type.Results.List) != len(want) {
			t.Errorf("%s has %d results, want %v", f.Name.Name, len(f.Type.Results.List), want)
			continue
		}
		for i, r := range f.Type.Results.List {
			if got := typeText(r.Type); got != want[i] {
				t.Errorf("%s: result %d is a %s, want %s", f.Name.Name, i, got, want[i])
			}
		}
	}
	for name := range results {
		t.Errorf("there is no %s", name)
	}
}

// typeText is the type as it is written: a name, one of another package, or a slice of one.
func typeText(e ast.Expr) string {
	switch x := e.(type) {
	case *ast.Ident:
		return x.Name
	case *ast.SelectorExpr:
		return typeText(x.X) + "." + x.Sel.Name
	case *ast.ArrayType:
		return "[]" + typeText(x.Elt)
	}
	return "another type"
}

// The map of layers: this one calls word, and nothing else of the project but api.
func TestImports(t *testing.T) {
	given := map[string]bool{`"tenement/api"`: true, `"tenement/word"`: true}
	calls := false
	for _, i := range source(t).Imports {
		if !given[i.Path.Value] {
			t.Errorf("arena imports %s", i.Path.Value)
		}
		calls = calls || i.Path.Value == `"tenement/word"`
	}
	if !calls {
		t.Error("arena does not call word")
	}
}

// A heap that was cut down does not hold on to the memory that it had.
func TestCutLetsGo(t *testing.T) {
	a := New(1 << 16)
	a.Take(1 << 15)
	a.Cut(8, 32)
	if cap(a.words) > 64 {
		t.Errorf("an arena of 32 words keeps %d", cap(a.words))
	}
	a.Cut(0, 0)
	if cap(a.words) > 0 {
		t.Errorf("an arena of no words keeps %d", cap(a.words))
	}
}
