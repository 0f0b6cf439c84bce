package token_test

import (
	"errors"
	"go/ast"
	"go/constant"
	"go/parser"
	gotoken "go/token"
	"go/types"
	"testing"

	"numerary/token"
)

// noImports refuses every import: what the package itself declares can be told without them.
type noImports struct{}

func (noImports) Import(string) (*types.Package, error) {
	return nil, errors.New("no imports")
}

// source is the package's own program text, with what its names stand for, as far as that hangs on no import.
func source(t *testing.T) (*ast.File, *types.Package, *types.Info) {
	t.Helper()
	fset := gotoken.NewFileSet()
	file, err := parser.ParseFile(fset, "token.go", nil, 0)
	if err != nil {
		t.Fatal(err)
	}
	info := &types.Info{Uses: map[*ast.Ident]types.Object{}, Defs: map[*ast.Ident]types.Object{}, Types: map[ast.Expr]types.TypeAndValue{}}
	config := types.Config{Importer: noImports{}, Error: func(error) {}}
	pack, _ := config.Check("token", fset, []*ast.File{file}, info)
	return file, pack, info
}

// kindsGroup: the group of constants that Quote stands in.
func kindsGroup(file *ast.File) *ast.GenDecl {
	for _, d := range file.Decls {
		g, ok := d.(*ast.GenDecl)
		if !ok || g.Tok != gotoken.CONST {
			continue
		}
		if first := g.Specs[0].(*ast.ValueSpec); first.Names[0].Name == "Quote" {
			return g
		}
	}
	return nil
}

// usesIota: does iota stand in an expression?
func usesIota(e ast.Expr) bool {
	found := false
	ast.Inspect(e, func(n ast.Node) bool {
		id, ok := n.(*ast.Ident)
		found = found || ok && id.Name == "iota"
		return true
	})
	return found
}

func TestKindsAreNumberedByIota(t *testing.T) {
	file, _, _ := source(t)
	group := kindsGroup(file)
	names := []string{"Quote", "Escape", "Space", "Fill", "Bracket", "Digit", "Point", "Comma", "Percent", "Slash", "Semicolon", "Text", "Power", "Date", "Half", "General", "Plain"}
	if group == nil || len(group.Specs) != len(names) {
		t.Fatal("Ways: no group of constants holds the kinds, Quote first")
	}
	for i, name := range names {
		line := group.Specs[i].(*ast.ValueSpec)
		if line.Names[0].Name != name {
			t.Errorf("Ways: kind %d is %s; want %s", 1+i, line.Names[0].Name, name)
		}
		if i > 0 && len(line.Values) > 0 {
			t.Errorf("Ways: %s has a number of its own", name)
		}
	}
	if first := group.Specs[0].(*ast.ValueSpec); len(first.Values) != 1 || !usesIota(first.Values[0]) {
		t.Error("Ways: Quote isn't numbered by iota")
	}
}

// kindsOfSigns: the signs and their kinds that a literal of a map to Kinds lists; none of another literal.
func kindsOfSigns(list *ast.CompositeLit, info *types.Info) map[int]token.Kind {
	m, ok := info.Types[list].Type.(*types.Map)
	if !ok {
		return nil
	}
	if named, ok := m.Elem().(*types.Named); !ok || named.Obj().Name() != "Kind" {
		return nil
	}
	found := map[int]token.Kind{}
	for _, e := range list.Elts {
		pair := e.(*ast.KeyValueExpr)
		sign, _ := constant.Int64Val(constant.ToInt(info.Types[pair.Key].Value))
		kind, _ := constant.Int64Val(info.Types[pair.Value].Value)
		found[int(sign)] = token.Kind(kind)
	}
	return found
}

// reached: the functions that one names, and those that these name.
func reached(name string, file *ast.File, pack *types.Package, info *types.Info) []*ast.FuncDecl {
	bodies := map[types.Object]*ast.FuncDecl{}
	for _, d := range file.Decls {
		if f, ok := d.(*ast.FuncDecl); ok {
			bodies[info.Defs[f.Name]] = f
		}
	}
	var found []*ast.FuncDecl
	work := []types.Object{pack.Scope().Lookup(name)}
	for len(work) > 0 {
		body := bodies[work[0]]
		delete(bodies, work[0])
		work = work[1:]
		if body == nil {
			continue
		}
		found = append(found, body)
		ast.Inspect(body, func(n ast.Node) bool {
			if id, ok := n.(*ast.Ident); ok && info.Uses[id] != nil {
				work = append(work, info.Uses[id])
			}
			return true
		})
	}
	return found
}

func TestKindsOfSingleSignsStandInAMap(t *testing.T) {
	file, pack, info := source(t)
	var kinds map[int]token.Kind
	asked := false
	for _, f := range reached("All", file, pack, info) {
		ast.Inspect(f, func(n ast.Node) bool {
			switch x := n.(type) {
			case *ast.CompositeLit:
				if found := kindsOfSigns(x, info); found != nil {
					kinds = found
				}
			case *ast.IndexExpr:
				_, ok := info.Types[x.X].Type.(*types.Map)
				asked = asked || ok
			}
			return true
		})
	}
	if kinds == nil || !asked {
		t.Fatal("Ways: All asks no map of kinds")
	}
	for _, x := range []struct {
		kind  token.Kind
		signs string
	}{
		{token.Digit, "0#?"}, {token.Point, "."}, {token.Comma, ","}, {token.Percent, "%"}, {token.Slash, "/"}, {token.Semicolon, ";"}, {token.Text, "@"}, {token.Plain, "$-+():!^&'~{}<>= 123456789"},
	} {
		for _, sign := range x.signs {
			if kinds[int(sign)] != x.kind {
				t.Errorf("Ways: the map says %d of %q; want %d", kinds[int(sign)], sign, x.kind)
			}
		}
	}
}
