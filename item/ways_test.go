package item_test

import (
	"errors"
	"go/ast"
	"go/constant"
	"go/parser"
	gotoken "go/token"
	"go/types"
	"testing"
)

// noImports refuses every import: what the package itself declares can be told without them.
type noImports struct{}

func (noImports) Import(string) (*types.Package, error) {
	return nil, errors.New("no imports")
}

// program is the package's own program text, with what its names stand for, as far as that hangs on no import.
type program struct {
	file *ast.File
	pack *types.Package
	info *types.Info
}

// source: the program text.
func source(t *testing.T) program {
	t.Helper()
	fset := gotoken.NewFileSet()
	file, err := parser.ParseFile(fset, "item.go", nil, 0)
	if err != nil {
		t.Fatal(err)
	}
	info := &types.Info{Uses: map[*ast.Ident]types.Object{}, Defs: map[*ast.Ident]types.Object{}, Types: map[ast.Expr]types.TypeAndValue{}}
	config := types.Config{Importer: noImports{}, Error: func(error) {}}
	pack, _ := config.Check("item", fset, []*ast.File{file}, info)
	return program{file, pack, info}
}

// groupOf: the group of constants that begins with a name.
func (p program) groupOf(name string) *ast.GenDecl {
	for _, d := range p.file.Decls {
		g, ok := d.(*ast.GenDecl)
		if !ok || g.Tok != gotoken.CONST {
			continue
		}
		if first := g.Specs[0].(*ast.ValueSpec); first.Names[0].Name == name {
			return g
		}
	}
	return nil
}

// usesIota: does iota stand in an expression?
func usesIota(e ast.Expr) bool {
	found := false
	ast.Inspect(e, func(n ast.Node) bool {
		id, ok := n.(*ast.Ident)
		found = found || ok && id.Name == "iota"
		return true
	})
	return found
}

func TestKindsAreNumberedByIota(t *testing.T) {
	p := source(t)
	for _, names := range [][]string{
		{"Literal", "Space", "Fill", "Digit", "Point", "Comma", "Percent", "Slash", "Power", "Text", "General", "Date", "Half", "Elapsed", "Money", "Part"},
		{"Fixed", "Number", "Sci", "Vulgar", "Day", "Words", "Any"},
	} {
		group := p.groupOf(names[0])
		if group == nil || len(group.Specs) != len(names) {
			t.Fatalf("Ways: no group of constants holds %v", names)
		}
		for i, name := range names {
			line := group.Specs[i].(*ast.ValueSpec)
			if line.Names[0].Name != name {
				t.Errorf("Ways: the constant %d is %s; want %s", 1+i, line.Names[0].Name, name)
			}
			if i > 0 && len(line.Values) > 0 {
				t.Errorf("Ways: %s has a number of its own", name)
			}
		}
		if first := group.Specs[0].(*ast.ValueSpec); len(first.Values) != 1 || !usesIota(first.Values[0]) {
			t.Errorf("Ways: %s isn't numbered by iota", names[0])
		}
	}
}

// reached: the functions that a function names, and those that these name, itself ahead; methods by their names alone.
func (p program) reached(name string) []*ast.FuncDecl {
	bodies := map[string]*ast.FuncDecl{}
	for _, d := range p.file.Decls {
		if f, ok := d.(*ast.FuncDecl); ok {
			bodies[f.Name.Name] = f
		}
	}
	var found []*ast.FuncDecl
	work := []string{name}
	for len(work) > 0 {
		body := bodies[work[0]]
		delete(bodies, work[0])
		work = work[1:]
		if body == nil {
			continue
		}
		found = append(found, body)
		ast.Inspect(body, func(n ast.Node) bool {
			if id, ok := n.(*ast.Ident); ok {
				work = append(work, id.Name)
			}
			return true
		})
	}
	return found
}

// number: the number that an expression has, or that the constant of its name has; -1, if there is none. (In a map by another package's keys no types are told.)
func (p program) number(e ast.Expr) int {
	v := p.info.Types[e].Value
	if id, ok := e.(*ast.Ident); ok && v == nil {
		if c, ok := p.pack.Scope().Lookup(id.Name).(*types.Const); ok {
			v = c.Val()
		}
	}
	if v == nil || v.Kind() != constant.Int {
		return -1
	}
	n, _ := constant.Int64Val(v)
	return int(n)
}

// key: a text, or the name of another package's constant.
func (p program) key(e ast.Expr) string {
	if s, ok := e.(*ast.SelectorExpr); ok {
		return s.Sel.Name
	}
	if v := p.info.Types[e].Value; v != nil && v.Kind() == constant.String {
		return constant.StringVal(v)
	}
	return ""
}

// maps: what the literals of maps say that are in some functions, by their keys; and how often a map of the package is asked there.
func (p program) maps(in []*ast.FuncDecl) (map[string]int, int) {
	said := map[string]int{}
	asked := map[string]bool{}
	for _, f := range in {
		ast.Inspect(f, func(n ast.Node) bool {
			switch x := n.(type) {
			case *ast.CompositeLit:
				if _, ok := x.Type.(*ast.MapType); !ok {
					break
				}
				for _, e := range x.Elts {
					pair := e.(*ast.KeyValueExpr)
					said[p.key(pair.Key)] = p.number(pair.Value)
				}
			case *ast.IndexExpr:
				if t := p.info.Types[x.X].Type; t != nil {
					if _, ok := t.Underlying().(*types.Map); ok {
						asked[types.ExprString(x.X)] = true
					}
				}
			}
			return true
		})
	}
	return said, len(asked)
}

func TestWhatSignsMeanStandsInMaps(t *testing.T) {
	p := source(t)
	said, asked := p.maps(p.reached("Of"))
	if asked < 2 {
		t.Errorf("Ways: Of asks %d maps; want those of kinds and of letters", asked)
	}
	for _, x := range []struct {
		key  string
		want int
	}{{"Quote", 1}, {"Escape", 1}, {"Plain", 1}, {"Space", 2}, {"Fill", 3}, {"Digit", 4}, {"Point", 5}, {"Comma", 6}, {"Percent", 7}, {"Slash", 8}, {"Power", 9}, {"Text", 10}, {"General", 11}, {"Date", 12}, {"Half", 13}, {"m", 5}, {"d", 4}, {"h", 2}, {"s", 2}} {
		if got, ok := said[x.key]; !ok || got != x.want {
			t.Errorf("Ways: the maps say %d of %s; want %d", got, x.key, x.want)
		}
	}
}

func TestItemsAreLookedForByAClosure(t *testing.T) {
	p := source(t)
	asks := false
	for _, f := range p.reached("Has") {
		ast.Inspect(f, func(n ast.Node) bool {
			call, ok := n.(*ast.CallExpr)
			if !ok {
				return true
			}
			for _, a := range call.Args {
				if lit, ok := a.(*ast.FuncLit); ok && p.namesParameter(lit, f) {
					asks = true
				}
			}
			return true
		})
	}
	if !asks {
		t.Error("Ways: Has hands no closure on that holds the Kind")
	}
}

// namesParameter: does a function literal name a parameter of the function that it stands in?
func (p program) namesParameter(lit *ast.FuncLit, f *ast.FuncDecl) bool {
	own := map[types.Object]bool{}
	for _, field := range f.Type.Params.List {
		for _, name := range field.Names {
			own[p.info.Defs[name]] = true
		}
	}
	found := false
	ast.Inspect(lit.Body, func(n ast.Node) bool {
		id, ok := n.(*ast.Ident)
		found = found || ok && p.info.Uses[id] != nil && own[p.info.Uses[id]]
		return true
	})
	return found
}
