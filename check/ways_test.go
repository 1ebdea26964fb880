package check_test

import (
	"go/ast"
	"go/parser"
	"go/token"
	"go/types"
	"testing"
)

// takes: by which name a function takes something of a type; empty, if it takes none.
func takes(f *ast.FuncDecl, kind string) string {
	for _, p := range f.Type.Params.List {
		if types.ExprString(p.Type) == kind && len(p.Names) > 0 {
			return p.Names[0].Name
		}
	}
	return ""
}

// calls: does a part of check.go call what has this name?
func calls(n ast.Node, name string) bool {
	found := false
	ast.Inspect(n, func(n ast.Node) bool {
		x, ok := n.(*ast.CallExpr)
		found = found || ok && types.ExprString(x.Fun) == name
		return true
	})
	return found
}

// TestWays: 'Ways' asks that coins are looked up through an interface, by its call.
func TestWays(t *testing.T) {
	parsed, err := parser.ParseFile(token.NewFileSet(), "check.go", nil, 0)
	if err != nil {
		t.Fatal(err)
	}
	called, isInterface := false, false
	for _, d := range parsed.Decls {
		switch x := d.(type) {
		case *ast.FuncDecl:
			if v := takes(x, "View"); v != "" {
				called = called || calls(x, v+".Get")
			}
		case *ast.GenDecl:
			for _, s := range x.Specs {
				if y, ok := s.(*ast.TypeSpec); ok && y.Name.Name == "View" {
					_, isInterface = y.Type.(*ast.InterfaceType)
				}
			}
		}
	}
	if !isInterface || !called {
		t.Errorf("Ways: coins aren't looked up through an interface, by its call: View is one: %v, its Get is called: %v", isInterface, called)
	}
}
