package coins_test

import (
	"go/ast"
	"go/parser"
	"go/token"
	"go/types"
	"testing"
)

// texts: what a part of coins.go has in it, as far as the text shows it: each of its types, and each of its calls.
func texts(n ast.Node) map[string]bool {
	got := map[string]bool{}
	ast.Inspect(n, func(n ast.Node) bool {
		switch x := n.(type) {
		case *ast.MapType:
			got[types.ExprString(x)] = true
		case *ast.CallExpr:
			got[types.ExprString(x)] = true
		}
		return true
	})
	return got
}

// TestWays: 'Ways' asks that coins stand in a map by their points, from which they are deleted, and that a set's copy has a copy of the map.
func TestWays(t *testing.T) {
	parsed, err := parser.ParseFile(token.NewFileSet(), "coins.go", nil, 0)
	if err != nil {
		t.Fatal(err)
	}
	parts := map[string]map[string]bool{}
	for _, d := range parsed.Decls {
		switch x := d.(type) {
		case *ast.FuncDecl:
			parts[x.Name.Name] = texts(x)
		case *ast.GenDecl:
			for _, s := range x.Specs {
				if y, ok := s.(*ast.TypeSpec); ok {
					parts[y.Name.Name] = texts(y)
				}
			}
		}
	}
	for _, x := range []struct{ part, text, what string }{
		{"Set", "map[api.Point]api.Coin", "coins don't stand in a map by their points"},
		{"Take", "delete(s.coins, p)", "coins aren't deleted from the map"},
		{"Copy", "maps.Clone(s.coins)", "a set's copy has no copy of the map"},
	} {
		if !parts[x.part][x.text] {
			t.Errorf("Ways: %s: no %s in %s", x.what, x.text, x.part)
		}
	}
}
