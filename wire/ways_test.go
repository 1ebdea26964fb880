package wire_test

import (
	"go/ast"
	"go/parser"
	"go/token"
	"go/types"
	"os"
	"strings"
	"testing"
)

// puts: where numbers are written (by the Put of layers 2 and 3), within closures that are called by their names, and elsewhere.
type puts struct {
	byClosure map[string]int
	elsewhere []string
}

func readPuts(t *testing.T) puts {
	t.Helper()
	entries, err := os.ReadDir(".")
	if err != nil {
		t.Fatal(err)
	}
	p := puts{byClosure: map[string]int{}}
	for _, e := range entries {
		if !strings.HasSuffix(e.Name(), ".go") || strings.HasSuffix(e.Name(), "_test.go") {
			continue
		}
		file, err := parser.ParseFile(token.NewFileSet(), e.Name(), nil, 0)
		if err != nil {
			t.Fatal(err)
		}
		for _, d := range file.Decls {
			if f, ok := d.(*ast.FuncDecl); ok {
				p.read(f)
			}
		}
	}
	return p
}

// read a function: the closures that it names and calls, and every Put.
func (p *puts) read(f *ast.FuncDecl) {
	named, called := map[*ast.FuncLit]string{}, map[string]bool{}
	ast.Inspect(f, func(n ast.Node) bool {
		switch x := n.(type) {
		case *ast.AssignStmt:
			for i, v := range x.Rhs {
				if lit, ok := v.(*ast.FuncLit); ok {
					named[lit] = types.ExprString(x.Lhs[i])
				}
			}
		case *ast.CallExpr:
			called[types.ExprString(x.Fun)] = true
		}
		return true
	})
	within := map[token.Pos]bool{}
	for lit, name := range named {
		ast.Inspect(lit, func(n ast.Node) bool {
			if put, ok := putOf(n); ok && called[name] {
				within[n.Pos()] = true
				p.byClosure[put]++
			}
			return true
		})
	}
	ast.Inspect(f, func(n ast.Node) bool {
		if put, ok := putOf(n); ok && !within[n.Pos()] {
			p.elsewhere = append(p.elsewhere, f.Name.Name+": "+put)
		}
		return true
	})
}

// putOf: is it layer 2's or layer 3's Put?
func putOf(n ast.Node) (string, bool) {
	x, ok := n.(*ast.SelectorExpr)
	if !ok {
		return "", false
	}
	name := types.ExprString(x)
	return name, name == "octet.Put" || name == "vint.Put"
}

// TestWays: 'Ways' asks that numbers are written by a closure.
func TestWays(t *testing.T) {
	p := readPuts(t)
	for _, put := range []string{"octet.Put", "vint.Put"} {
		if p.byClosure[put] == 0 {
			t.Errorf("Ways: no closure writes numbers by %s", put)
		}
	}
	for _, where := range p.elsewhere {
		t.Errorf("Ways: a number isn't written by a closure: %s", where)
	}
}
