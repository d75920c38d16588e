// Package tables is no part of the program: it tests that the tables at package level stay as short as the language's rules have them.
package tables

import (
	"go/ast"
	"go/importer"
	"go/parser"
	"go/token"
	"go/types"
	"os"
	"path/filepath"
	"strings"
	"testing"
)

// root is where the module's packages lie, module its name.
const (
	root   = ".."
	module = "undertow"
)

// How many of each one table may hold, at most; and how many such tables one call may reach.
const (
	mostSmall  = 250.0
	mostWords  = 200.0
	mostLong   = 150.0
	mostTexts  = 140.0
	mostRows   = 50.0
	mostTables = 2.0
)

// A look is what is known of the packages that were loaded.
type look struct {
	files map[string][]*ast.File
	packs map[string]*types.Package
	fset  *token.FileSet
	info  types.Info
	other types.Importer
}

// Import loads a package; the tests' own files are none of it.
func (l *look) Import(path string) (*types.Package, error) {
	if !strings.HasPrefix(path, module+"/") {
		return l.other.Import(path)
	}
	if p := l.packs[path]; p != nil {
		return p, nil
	}
	names, err := filepath.Glob(filepath.Join(root, strings.TrimPrefix(path, module+"/"), "*.go"))
	if err != nil {
		return nil, err
	}
	for _, name := range names {
		if strings.HasSuffix(name, "_test.go") {
			continue
		}
		f, err := parser.ParseFile(l.fset, name, nil, 0)
		if err != nil {
			return nil, err
		}
		l.files[path] = append(l.files[path], f)
	}
	c := types.Config{Importer: l}
	l.packs[path], err = c.Check(path, l.fset, l.files[path], &l.info)
	return l.packs[path], err
}

// tables are the variables at a package's own level that have more than one thing.
func (l *look) tables(path string) []*types.Var {
	var all []*types.Var
	scope := l.packs[path].Scope()
	for _, name := range scope.Names() {
		if v, ok := scope.Lookup(name).(*types.Var); ok && v.Name() != "_" {
			switch v.Type().Underlying().(type) {
			case *types.Array, *types.Slice, *types.Struct, *types.Map:
				all = append(all, v)
			}
		}
	}
	return all
}

// length is how many things a slice has that is written out where it is declared.
func (l *look) length(path string, v *types.Var) int64 {
	long := 0
	for _, f := range l.files[path] {
		ast.Inspect(f, func(n ast.Node) bool {
			s, ok := n.(*ast.ValueSpec)
			if !ok {
				return true
			}
			for k, value := range s.Values {
				if c, ok := value.(*ast.CompositeLit); ok && l.info.Defs[s.Names[k]] == v {
					long = len(c.Elts)
				}
			}
			return true
		})
	}
	return int64(long)
}

// part is how much n things of a type are of what one table may hold.
func part(t types.Type, n int64) float64 {
	switch x := t.Underlying().(type) {
	case *types.Array:
		return part(x.Elem(), n*x.Len())
	case *types.Basic:
		switch x.Kind() {
		case types.String:
			return float64(n) / mostTexts
		case types.Uint32, types.Int32:
			return float64(n) / mostWords
		case types.Uint64, types.Int64, types.Float64:
			return float64(n) / mostLong
		}
		return float64(n) / mostSmall
	}
	return float64(n) / mostRows
}

// packages are the paths of the packages that have a file of the program.
func packages(t *testing.T) []string {
	t.Helper()
	dirs, err := os.ReadDir(root)
	if err != nil {
		t.Fatal(err)
	}
	var all []string
	for _, d := range dirs {
		files, _ := filepath.Glob(filepath.Join(root, d.Name(), "*.go"))
		for _, f := range files {
			if !strings.HasSuffix(f, "_test.go") {
				all = append(all, module+"/"+d.Name())
				break
			}
		}
	}
	return all
}

// No table is too great; nor are all of them together, which is more than any one call reaches.
func TestTables(t *testing.T) {
	l := &look{files: map[string][]*ast.File{}, packs: map[string]*types.Package{}, fset: token.NewFileSet(), info: types.Info{Defs: map[*ast.Ident]types.Object{}}}
	l.other = importer.ForCompiler(l.fset, "source", nil)
	sum, names := 0.0, 0
	for _, path := range packages(t) {
		if _, err := l.Import(path); err != nil {
			t.Fatal(err)
		}
		for _, v := range l.tables(path) {
			p := part(v.Type(), 1)
			if s, ok := v.Type().Underlying().(*types.Slice); ok {
				p = part(s.Elem(), l.length(path, v))
			}
			if p > 1 {
				t.Errorf("%s.%s: %.2f of a table", path, v.Name(), p)
			}
			t.Logf("%s.%s: %.2f", path, v.Name(), p)
			sum += p
			names++
		}
	}
	if sum > mostTables || names == 0 {
		t.Errorf("%d tables, %.2f of what one may hold", names, sum)
	}
}
