package tx_test

import (
	"go/ast"
	"go/parser"
	"go/token"
	"go/types"
	"testing"
)

// ways: what tx.go has of what 'Ways' asks for, as far as the text shows it.
type ways struct {
	counting bool            // a map by points, whose numbers are counted up
	lookers  map[string]bool // by the type of what is looked through: closures that are handed on
}

func readWays(t *testing.T, file string) ways {
	t.Helper()
	parsed, err := parser.ParseFile(token.NewFileSet(), file, nil, 0)
	if err != nil {
		t.Fatal(err)
	}
	w := ways{lookers: map[string]bool{}}
	for _, d := range parsed.Decls {
		if f, ok := d.(*ast.FuncDecl); ok {
			w.read(f)
		}
	}
	return w
}

// read a function: its map and what is counted in it stand together; a closure is handed on as it is written, or by its name.
func (w *ways) read(f *ast.FuncDecl) {
	var byPoints, countsUp bool
	named, handed := map[string]*ast.FuncLit{}, map[string]bool{}
	ast.Inspect(f, func(n ast.Node) bool {
		switch x := n.(type) {
		case *ast.MapType:
			byPoints = byPoints || types.ExprString(x.Key) == "api.Point" && types.ExprString(x.Value) == "int"
		case *ast.IncDecStmt:
			_, indexed := x.X.(*ast.IndexExpr)
			countsUp = countsUp || indexed && x.Tok == token.INC
		case *ast.AssignStmt:
			for i, v := range x.Rhs {
				if lit, ok := v.(*ast.FuncLit); ok {
					named[types.ExprString(x.Lhs[i])] = lit
				}
			}
		case *ast.CallExpr:
			for _, a := range x.Args {
				if lit, ok := a.(*ast.FuncLit); ok {
					w.look(lit)
				}
				if name, ok := a.(*ast.Ident); ok {
					handed[name.Name] = true
				}
			}
		}
		return true
	})
	for name, lit := range named {
		if handed[name] {
			w.look(lit)
		}
	}
	w.counting = w.counting || byPoints && countsUp
}

func (w *ways) look(lit *ast.FuncLit) {
	for _, p := range lit.Type.Params.List {
		w.lookers[types.ExprString(p.Type)] = true
	}
}

// TestWays: 'Ways' asks that outputs that are spent are counted in a map by their points, and that scripts, items and inputs are looked through by closures.
func TestWays(t *testing.T) {
	w := readWays(t, "tx.go")
	if !w.counting {
		t.Errorf("Ways: no outputs are counted in a map by their points")
	}
	for kind, what := range map[string]string{"api.Out": "scripts", "string": "items", "api.In": "inputs"} {
		if !w.lookers[kind] {
			t.Errorf("Ways: no closure looks through %s", what)
		}
	}
}
