package bits_test

import (
	"errors"
	"go/ast"
	"go/parser"
	"go/token"
	"go/types"
	"testing"

	"numerary/bits"
)

// noImports refuses every import: what the package itself declares can be told without them.
type noImports struct{}

func (noImports) Import(string) (*types.Package, error) {
	return nil, errors.New("no imports")
}

// source is the package's own program text, with the types of what is in it, as far as they hang on no import.
func source(t *testing.T) (*ast.File, *types.Info) {
	t.Helper()
	fset := token.NewFileSet()
	file, err := parser.ParseFile(fset, "bits.go", nil, 0)
	if err != nil {
		t.Fatal(err)
	}
	info := &types.Info{Types: map[ast.Expr]types.TypeAndValue{}}
	config := types.Config{Importer: noImports{}, Error: func(error) {}}
	config.Check("bits", fset, []*ast.File{file}, info)
	return file, info
}

// classes: the group of constants that Zero stands in.
func classes(file *ast.File) *ast.GenDecl {
	for _, d := range file.Decls {
		g, ok := d.(*ast.GenDecl)
		if !ok || g.Tok != token.CONST {
			continue
		}
		if first := g.Specs[0].(*ast.ValueSpec); first.Names[0].Name == "Zero" {
			return g
		}
	}
	return nil
}

// comparesValues: is a Value held against another one somewhere in a function?
func comparesValues(f *ast.FuncDecl, info *types.Info) bool {
	found := false
	ast.Inspect(f, func(n ast.Node) bool {
		x, ok := n.(*ast.BinaryExpr)
		if !ok || x.Op != token.EQL && x.Op != token.NEQ {
			return true
		}
		for _, side := range []ast.Expr{x.X, x.Y} {
			named, ok := info.Types[side].Type.(*types.Named)
			found = found || ok && named.Obj().Name() == "Value"
		}
		return true
	})
	return found
}

func TestClassesAreNumberedByIota(t *testing.T) {
	for number, class := range []bits.Class{bits.Zero, bits.Finite, bits.Infinite, bits.Nothing} {
		if int(class) != number {
			t.Errorf("Ways: class %d has the number %d", number, class)
		}
	}
	file, _ := source(t)
	group := classes(file)
	if group == nil || len(group.Specs) != 4 {
		t.Fatal("Ways: no group of constants holds the four classes, Zero first")
	}
	for i, name := range []string{"Zero", "Finite", "Infinite", "Nothing"} {
		line := group.Specs[i].(*ast.ValueSpec)
		if line.Names[0].Name != name {
			t.Errorf("Ways: class %d is %s; want %s", i, line.Names[0].Name, name)
		}
		if i > 0 && len(line.Values) > 0 {
			t.Errorf("Ways: %s has a number of its own", name)
		}
	}
	first := group.Specs[0].(*ast.ValueSpec)
	if len(first.Values) != 1 || types.ExprString(first.Values[0]) != "iota" {
		t.Errorf("Ways: Zero isn't iota")
	}
}

func TestAValueIsAStructThatIsCompared(t *testing.T) {
	count := map[bits.Value]int{} // Ways: this is refused of a struct that can't be compared
	for _, b := range []uint64{1, 1, 2, sign, 0, infinite + 1, nothing} {
		count[bits.Of(b)]++
	}
	if len(count) != 5 || count[bits.Of(1)] != 2 || count[bits.Value{Class: bits.Nothing}] != 2 {
		t.Errorf("Ways: values that are the same aren't one: %v", count)
	}
	file, info := source(t)
	for _, d := range file.Decls {
		if f, ok := d.(*ast.FuncDecl); ok && f.Name.Name == "Bits" {
			if !comparesValues(f, info) {
				t.Errorf("Ways: Bits compares no value")
			}
			return
		}
	}
	t.Error("Ways: no method Bits")
}
