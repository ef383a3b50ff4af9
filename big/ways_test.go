package big

import (
	"go/ast"
	"go/parser"
	"go/token"
	"testing"
)

func sources(t *testing.T) []*ast.File {
	t.Helper()
	var files []*ast.File
	for _, name := range []string{"big.go", "limbs.go"} {
		f, err := parser.ParseFile(token.NewFileSet(), name, nil, 0)
		if err != nil {
			t.Fatal(err)
		}
		files = append(files, f)
	}
	return files
}

// Ways: a Num is handed by value, so nobody points at one.
func TestNumsAreValues(t *testing.T) {
	for _, f := range sources(t) {
		ast.Inspect(f, func(n ast.Node) bool {
			if p, ok := n.(*ast.StarExpr); ok {
				if x, ok := p.X.(*ast.Ident); ok && x.Name == "Num" {
					t.Error("a pointer to a Num")
				}
			}
			return true
		})
	}
	a := Of(5)
	b := a
	b.Neg = true
	if a.Neg || !equal(Sub(Num{}, a), b) || a.Neg {
		t.Error("a Num is not a value")
	}
}

// Ways: limbs are carried by 64 bits.
func TestCarriesAreWide(t *testing.T) {
	wide := map[string]bool{}
	for _, f := range sources(t) {
		for _, d := range f.Decls {
			x, ok := d.(*ast.FuncDecl)
			if !ok {
				continue
			}
			ast.Inspect(x, func(n ast.Node) bool {
				if i, ok := n.(*ast.Ident); ok && i.Name == "uint64" {
					wide[x.Name.Name] = true
				}
				return true
			})
		}
	}
	for _, name := range []string{"sum", "difference", "product", "grown", "shrink", "raised", "lower", "guess", "takeTimes", "giveBack"} {
		if !wide[name] {
			t.Errorf("%s does not reckon by 64 bits", name)
		}
	}
}

// The map: this layer calls nothing of the project but api; and the library's own great numbers stay outside.
func TestImports(t *testing.T) {
	given := map[string]bool{`"cmp"`: true, `"math/bits"`: true, `"slices"`: true, `"strings"`: true, `"tenement/api"`: true}
	for _, f := range sources(t) {
		for _, i := range f.Imports {
			if !given[i.Path.Value] {
				t.Errorf("big imports %s", i.Path.Value)
			}
		}
	}
}
