package cond_test

import (
	"errors"
	"go/ast"
	"go/constant"
	"go/parser"
	"go/token"
	"go/types"
	"slices"
	"testing"
)

// noImports refuses every import: what the package itself declares can be told without them.
type noImports struct{}

func (noImports) Import(string) (*types.Package, error) {
	return nil, errors.New("no imports")
}

// source is the package's own program text, with what its names stand for, as far as that hangs on no import.
func source(t *testing.T) (*ast.File, *types.Info) {
	t.Helper()
	fset := token.NewFileSet()
	file, err := parser.ParseFile(fset, "cond.go", nil, 0)
	if err != nil {
		t.Fatal(err)
	}
	info := &types.Info{Uses: map[*ast.Ident]types.Object{}, Defs: map[*ast.Ident]types.Object{}, Types: map[ast.Expr]types.TypeAndValue{}}
	config := types.Config{Importer: noImports{}, Error: func(error) {}}
	config.Check("cond", fset, []*ast.File{file}, info)
	return file, info
}

// waysGroup: the group of constants that Less stands in.
func waysGroup(file *ast.File) *ast.GenDecl {
	for _, d := range file.Decls {
		g, ok := d.(*ast.GenDecl)
		if !ok || g.Tok != token.CONST {
			continue
		}
		if first := g.Specs[0].(*ast.ValueSpec); first.Names[0].Name == "Less" {
			return g
		}
	}
	return nil
}

// usesIota: does iota stand in an expression?
func usesIota(e ast.Expr) bool {
	found := false
	ast.Inspect(e, func(n ast.Node) bool {
		id, ok := n.(*ast.Ident)
		found = found || ok && id.Name == "iota"
		return true
	})
	return found
}

func TestWaysAreNumberedByIota(t *testing.T) {
	file, _ := source(t)
	group := waysGroup(file)
	names := []string{"Less", "AtMost", "More", "AtLeast", "Same", "Other"}
	if group == nil || len(group.Specs) != len(names) {
		t.Fatal("Ways: no group of constants holds the six ways, Less first")
	}
	for i, name := range names {
		line := group.Specs[i].(*ast.ValueSpec)
		if line.Names[0].Name != name {
			t.Errorf("Ways: way %d is %s; want %s", 1+i, line.Names[0].Name, name)
		}
		if i > 0 && len(line.Values) > 0 {
			t.Errorf("Ways: %s has a number of its own", name)
		}
	}
	if first := group.Specs[0].(*ast.ValueSpec); len(first.Values) != 1 || !usesIota(first.Values[0]) {
		t.Error("Ways: Less isn't numbered by iota")
	}
}

// textsOf: the texts that a literal lists, in order.
func textsOf(list *ast.CompositeLit, info *types.Info) []string {
	var texts []string
	for _, e := range list.Elts {
		if pair, ok := e.(*ast.KeyValueExpr); ok {
			e = pair.Value
		}
		if v := info.Types[e].Value; v != nil && v.Kind() == constant.String {
			texts = append(texts, constant.StringVal(v))
		}
	}
	return texts
}

// arrayOfSigns: the package-level array that lists the six signs, in the order of the ways.
func arrayOfSigns(file *ast.File, info *types.Info) types.Object {
	for _, d := range file.Decls {
		g, ok := d.(*ast.GenDecl)
		if !ok || g.Tok != token.VAR {
			continue
		}
		for _, s := range g.Specs {
			v := s.(*ast.ValueSpec)
			object := info.Defs[v.Names[0]]
			_, array := object.Type().Underlying().(*types.Array)
			if !array || len(v.Values) != 1 {
				continue
			}
			list, ok := v.Values[0].(*ast.CompositeLit)
			if ok && slices.Equal(textsOf(list, info), []string{"<", "<=", ">", ">=", "=", "<>"}) {
				return object
			}
		}
	}
	return nil
}

// named: what a function names.
func named(name string, file *ast.File, info *types.Info) map[types.Object]bool {
	found := map[types.Object]bool{}
	for _, d := range file.Decls {
		f, ok := d.(*ast.FuncDecl)
		if !ok || f.Name.Name != name {
			continue
		}
		ast.Inspect(f, func(n ast.Node) bool {
			if id, ok := n.(*ast.Ident); ok && info.Uses[id] != nil {
				found[info.Uses[id]] = true
			}
			return true
		})
	}
	return found
}

func TestSignsStandInAnArray(t *testing.T) {
	file, info := source(t)
	array := arrayOfSigns(file, info)
	if array == nil {
		t.Fatal("Ways: no array lists the six signs in the order of their ways")
	}
	for _, name := range []string{"Parse", "Text"} {
		if !named(name, file, info)[array] {
			t.Errorf("Ways: %s does not read the array %s", name, array.Name())
		}
	}
}
