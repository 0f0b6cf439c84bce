package runes_test

import (
	"go/ast"
	"go/parser"
	"go/token"
	"go/types"
	"slices"
	"testing"
)

// source is the package's own program text, with what each name in it stands for.
func source(t *testing.T) (*ast.File, *types.Package, *types.Info) {
	t.Helper()
	fset := token.NewFileSet()
	file, err := parser.ParseFile(fset, "runes.go", nil, 0)
	if err != nil {
		t.Fatal(err)
	}
	info := &types.Info{Uses: map[*ast.Ident]types.Object{}, Defs: map[*ast.Ident]types.Object{}, Types: map[ast.Expr]types.TypeAndValue{}}
	pack, err := new(types.Config).Check("runes", fset, []*ast.File{file}, info)
	if err != nil {
		t.Fatal(err)
	}
	return file, pack, info
}

// numbersOf: the numbers that a literal lists, in order.
func numbersOf(list *ast.CompositeLit, info *types.Info) []string {
	var numbers []string
	for _, e := range list.Elts {
		if v := info.Types[e].Value; v != nil {
			numbers = append(numbers, v.ExactString())
		}
	}
	return numbers
}

// leadingBits: the package-level array that lists the leading bits C0, E0 and F0.
func leadingBits(file *ast.File, info *types.Info) types.Object {
	for _, d := range file.Decls {
		g, ok := d.(*ast.GenDecl)
		if !ok || g.Tok != token.VAR {
			continue
		}
		for _, s := range g.Specs {
			v := s.(*ast.ValueSpec)
			object := info.Defs[v.Names[0]]
			_, array := object.Type().Underlying().(*types.Array)
			if !array || len(v.Values) != 1 {
				continue
			}
			list, ok := v.Values[0].(*ast.CompositeLit)
			if !ok {
				continue
			}
			numbers := numbersOf(list, info)
			if slices.Contains(numbers, "192") && slices.Contains(numbers, "224") && slices.Contains(numbers, "240") {
				return object
			}
		}
	}
	return nil
}

// reached: what a function names, and what the functions it names name.
func reached(name string, file *ast.File, pack *types.Package, info *types.Info) map[types.Object]bool {
	bodies := map[types.Object]*ast.FuncDecl{}
	for _, d := range file.Decls {
		if f, ok := d.(*ast.FuncDecl); ok {
			bodies[info.Defs[f.Name]] = f
		}
	}
	seen := map[types.Object]bool{}
	work := []types.Object{pack.Scope().Lookup(name)}
	for len(work) > 0 {
		body := bodies[work[0]]
		work = work[1:]
		if body == nil {
			continue
		}
		ast.Inspect(body, func(n ast.Node) bool {
			if id, ok := n.(*ast.Ident); ok && info.Uses[id] != nil && !seen[info.Uses[id]] {
				seen[info.Uses[id]] = true
				work = append(work, info.Uses[id])
			}
			return true
		})
	}
	return seen
}

func TestLeadingBitsStandInAnArray(t *testing.T) {
	file, pack, info := source(t)
	array := leadingBits(file, info)
	if array == nil {
		t.Fatal("Ways: no array lists the leading bits C0, E0 and F0")
	}
	for _, name := range []string{"First", "Text", "All", "Right"} {
		if !reached(name, file, pack, info)[array] {
			t.Errorf("Ways: %s does not read the array %s", name, array.Name())
		}
	}
}
