package sha_test

import (
	"go/ast"
	"go/parser"
	"go/token"
	"slices"
	"strconv"
	"testing"
)

// arraysOfLiterals at package level, by how many literals each has written out.
func arraysOfLiterals(t *testing.T, file string) []int {
	t.Helper()
	parsed, err := parser.ParseFile(token.NewFileSet(), file, nil, 0)
	if err != nil {
		t.Fatal(err)
	}
	var sizes []int
	for _, d := range parsed.Decls {
		group, ok := d.(*ast.GenDecl)
		if !ok || group.Tok != token.VAR {
			continue
		}
		for _, s := range group.Specs {
			for _, v := range s.(*ast.ValueSpec).Values {
				if n, ok := literalsOf(v); ok {
					sizes = append(sizes, n)
				}
			}
		}
	}
	return sizes
}

// literalsOf an array that is written out whole, in number literals alone.
func literalsOf(v ast.Expr) (int, bool) {
	table, ok := v.(*ast.CompositeLit)
	if !ok {
		return 0, false
	}
	kind, ok := table.Type.(*ast.ArrayType)
	if !ok || kind.Len == nil {
		return 0, false
	}
	if size, ok := kind.Len.(*ast.BasicLit); ok && size.Value != strconv.Itoa(len(table.Elts)) {
		return 0, false
	}
	for _, e := range table.Elts {
		if x, ok := e.(*ast.BasicLit); !ok || x.Kind != token.INT {
			return 0, false
		}
	}
	return len(table.Elts), true
}

// TestTables: 'Ways' asks for the eight words that a digest begins with, and the 64 keys, as constant tables of literals.
func TestTables(t *testing.T) {
	sizes := arraysOfLiterals(t, "sha.go")
	slices.Sort(sizes)
	if !slices.Equal(sizes, []int{8, 64}) {
		t.Errorf("Ways: the arrays of literals at package level have %v elements, not 8 and 64", sizes)
	}
}
