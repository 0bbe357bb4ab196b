package rules_test

import (
	"bytes"
	"go/ast"
	"go/format"
	"go/parser"
	"go/token"
	"io/fs"
	"os"
	"path/filepath"
	"slices"
	"strconv"
	"strings"
	"testing"
)

// layers are the packages in the row of DOC.md's map: each may call those ahead of it.
var layers = []string{"api", "sign", "word", "bits", "vint", "posting", "cursor", "dict", "doc", "buffer", "segment", "merge", "query", "match", "score", "erase", "snap", "policy", "plain", "sched", "index", "history", "lines"}

// library is what LANGUAGE.md lets the program take of Go's own library.
var library = []string{"bytes", "cmp", "container/heap", "errors", "iter", "maps", "math", "math/bits", "slices", "sort", "strconv", "strings", "sync", "sync/atomic", "unicode", "unicode/utf8"}

// shut are names of these packages that the program may not take.
var shut = []string{"iter.Pull", "iter.Pull2", "sync.Cond", "sync.NewCond", "sync.Map", "sync.Pool", "sync.Locker", "sync.OnceFunc", "sync.OnceValue", "sync.OnceValues"}

const mostLines = 60

// source is one file of the program: no test, none of the tests that are laid beside it.
type source struct {
	path string
	text []byte
	fset *token.FileSet
	tree *ast.File
}

func sources(t *testing.T) []source {
	t.Helper()
	var l []source
	err := filepath.WalkDir("..", func(path string, d fs.DirEntry, err error) error {
		if err != nil {
			return err
		}
		if d.IsDir() && path != ".." && (d.Name() == "sharedtests" || d.Name()[0] == '.') {
			return filepath.SkipDir
		}
		if d.IsDir() || !strings.HasSuffix(path, ".go") || strings.HasSuffix(path, "_test.go") {
			return nil
		}
		s := source{path: path, fset: token.NewFileSet()}
		if s.text, err = os.ReadFile(path); err != nil {
			return err
		}
		s.tree, err = parser.ParseFile(s.fset, path, s.text, parser.ParseComments)
		l = append(l, s)
		return err
	})
	if err != nil {
		t.Fatal(err)
	}
	if len(l) < len(layers) {
		t.Fatalf("only %d files found", len(l))
	}
	return l
}

// LANGUAGE.md 1, and the map: a layer imports those below it, and of the library what is listed.
func TestImports(t *testing.T) {
	for _, s := range sources(t) {
		own := slices.Index(layers, s.tree.Name.Name)
		for _, i := range s.tree.Imports {
			path, err := strconv.Unquote(i.Path.Value)
			if err != nil {
				t.Fatal(err)
			}
			name, inside := strings.CutPrefix(path, "concordance/")
			if !inside && !slices.Contains(library, path) {
				t.Errorf("%s imports %s", s.path, path)
			}
			if inside && own >= 0 && slices.Index(layers, name) >= own {
				t.Errorf("%s imports %s, which is not below it", s.path, path)
			}
		}
		ast.Inspect(s.tree, func(n ast.Node) bool {
			if x, ok := n.(*ast.SelectorExpr); ok {
				if p, ok := x.X.(*ast.Ident); ok && slices.Contains(shut, p.Name+"."+x.Sel.Name) {
					t.Errorf("%s takes %s.%s", s.fset.Position(x.Pos()), p.Name, x.Sel.Name)
				}
			}
			return true
		})
	}
	mod, err := os.ReadFile("../go.mod")
	if err != nil || string(mod) != "module concordance\n\ngo 1.27\n" {
		t.Errorf("go.mod: %q, %v", mod, err)
	}
}

// LANGUAGE.md 2 and 9: gofmt's layout, no line for the compiler, no long function.
func TestLayout(t *testing.T) {
	for _, s := range sources(t) {
		if f, err := format.Source(s.text); err != nil || !bytes.Equal(f, s.text) {
			t.Errorf("%s is not as gofmt has it (%v)", s.path, err)
		}
		for _, g := range s.tree.Comments {
			for _, c := range g.List {
				if strings.HasPrefix(c.Text, "//go:") || strings.HasPrefix(c.Text, "// +build") {
					t.Errorf("%s: %s", s.fset.Position(c.Pos()), c.Text)
				}
			}
		}
		for _, d := range s.tree.Decls {
			if f, ok := d.(*ast.FuncDecl); ok {
				if n := s.fset.Position(f.End()).Line - s.fset.Position(f.Pos()).Line + 1; n > mostLines {
					t.Errorf("%s has %d lines", f.Name.Name, n)
				}
			}
		}
	}
}
