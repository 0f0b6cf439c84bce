package colour_test

import (
	"go/ast"
	"go/parser"
	"go/token"
	"strconv"
	"testing"
)

// functions: the package's own functions, by their names.
func functions(t *testing.T) map[string]*ast.FuncDecl {
	t.Helper()
	file, err := parser.ParseFile(token.NewFileSet(), "colour.go", nil, 0)
	if err != nil {
		t.Fatal(err)
	}
	found := map[string]*ast.FuncDecl{}
	for _, d := range file.Decls {
		if f, ok := d.(*ast.FuncDecl); ok {
			found[f.Name.Name] = f
		}
	}
	return found
}

// looksAbove: does a closure hold what it is handed against 7F, or 80?
func looksAbove(closure *ast.FuncLit) bool {
	found := false
	ast.Inspect(closure.Body, func(n ast.Node) bool {
		x, ok := n.(*ast.BinaryExpr)
		if !ok {
			return true
		}
		for _, side := range []ast.Expr{x.X, x.Y} {
			if number, ok := side.(*ast.BasicLit); ok {
				bound, _ := strconv.ParseInt(number.Value, 0, 64)
				found = found || bound == 0x7F || bound == 0x80
			}
		}
		return true
	})
	return found
}

// leansOnClosure: has a function such a closure, or one that it names?
func leansOnClosure(name string, bodies map[string]*ast.FuncDecl, seen map[string]bool) bool {
	if bodies[name] == nil || seen[name] {
		return false
	}
	seen[name] = true
	found := false
	ast.Inspect(bodies[name], func(n ast.Node) bool {
		switch x := n.(type) {
		case *ast.FuncLit:
			found = found || looksAbove(x)
		case *ast.Ident:
			found = found || leansOnClosure(x.Name, bodies, seen)
		}
		return true
	})
	return found
}

func TestSignsAbove7FAreLookedForByAClosure(t *testing.T) {
	bodies := functions(t)
	for _, name := range []string{"Number", "Elapsed"} {
		if !leansOnClosure(name, bodies, map[string]bool{}) {
			t.Errorf("Ways: %s looks for no signs above 7F by a closure", name)
		}
	}
}
