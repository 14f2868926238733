package rules

import (
	"bytes"
	"go/ast"
	"go/format"
	"go/parser"
	"go/token"
	"io/fs"
	"os"
	"path/filepath"
	"slices"
	"strconv"
	"strings"
	"testing"
)

// file is a Go file of the program, not one of its tests.
type file struct {
	path, folder string
	text         []byte
	set          *token.FileSet
	tree         *ast.File
}

// programFiles leaves out the tests that .ci/run lays beside the program: the language's rules do not hold for tests.
func programFiles(t *testing.T) []file {
	t.Helper()
	var l []file
	err := filepath.WalkDir("..", func(path string, d fs.DirEntry, err error) error {
		if err != nil {
			return err
		}
		name := d.Name()
		if d.IsDir() && path != ".." && (name == "sharedtests" || strings.HasPrefix(name, ".")) {
			return filepath.SkipDir
		}
		if d.IsDir() || !strings.HasSuffix(name, ".go") || strings.HasSuffix(name, "_test.go") {
			return nil
		}
		text, err := os.ReadFile(path)
		if err != nil {
			return err
		}
		set := token.NewFileSet()
		tree, err := parser.ParseFile(set, path, text, parser.ParseComments)
		if err != nil {
			return err
		}
		folder, _ := filepath.Rel("..", filepath.Dir(path))
		l = append(l, file{path: path, folder: filepath.ToSlash(folder), text: text, set: set, tree: tree})
		return nil
	})
	if err != nil {
		t.Fatal(err)
	}
	if len(l) < 25 {
		t.Fatalf("only %d files were found", len(l))
	}
	return l
}

// layers are the packages of the document's map, by their numbers; api stands at 0.
func layers() []string {
	return strings.Fields("api sig words terms canon text bag subst derive linsolve pick agenda abstract step rejoin state solve units unify split match instance minimise proof session")
}

// calls are the layers that each layer may call, as the document's map says them (api is for all). Solve calls sig, terms and canon beside those of the map: its chapter asks for what they answer, and none of the others tells it.
func calls() map[string][]int {
	upTo := func(from, to int) []int {
		var l []int
		for i := from; i <= to; i++ {
			l = append(l, i)
		}
		return l
	}
	return map[string][]int{
		"words": {1}, "terms": {1}, "canon": {1, 3}, "text": {1, 2, 3}, "subst": {1, 3, 4}, "derive": {1, 3, 4},
		"abstract": {3, 4, 6}, "step": {3, 4, 7}, "rejoin": {3, 4, 9, 10, 12}, "state": {3, 4, 7, 11, 12, 13, 14},
		"solve": append([]int{1, 3, 4}, upTo(9, 15)...), "units": {1}, "unify": {1, 3, 4, 7, 16, 17}, "split": {6}, "match": {1, 3, 4, 7, 17, 19},
		"instance": {3, 7, 20}, "minimise": {21}, "proof": {4, 7, 8, 18}, "session": upTo(1, 23),
	}
}

func TestImports(t *testing.T) {
	library := strings.Fields("bytes cmp container/heap errors iter maps math math/bits slices sort strconv strings sync sync/atomic unicode unicode/utf8")
	names, allowed := layers(), calls()
	for _, f := range programFiles(t) {
		for _, x := range f.tree.Imports {
			path, _ := strconv.Unquote(x.Path.Value)
			own, isOwn := strings.CutPrefix(path, "amalgam/")
			if !isOwn && !slices.Contains(library, path) {
				t.Errorf("%s imports %s", f.path, path)
			}
			called := slices.Index(names, own)
			if isOwn && called > 0 && slices.Contains(names, f.folder) && !slices.Contains(allowed[f.folder], called) {
				t.Errorf("%s calls layer %d", f.path, called)
			}
		}
	}
}

func TestOfSyncAFewAlone(t *testing.T) {
	for _, f := range programFiles(t) {
		ast.Inspect(f.tree, func(n ast.Node) bool {
			x, ok := n.(*ast.SelectorExpr)
			if !ok {
				return true
			}
			p, ok := x.X.(*ast.Ident)
			if ok && p.Name == "sync" && !slices.Contains(strings.Fields("Mutex RWMutex WaitGroup Once"), x.Sel.Name) {
				t.Errorf("%s: sync.%s", f.path, x.Sel.Name)
			}
			return true
		})
	}
}

func TestNothingIsPrinted(t *testing.T) {
	for _, f := range programFiles(t) {
		ast.Inspect(f.tree, func(n ast.Node) bool {
			if c, ok := n.(*ast.CallExpr); ok {
				if x, ok := c.Fun.(*ast.Ident); ok && (x.Name == "print" || x.Name == "println") {
					t.Errorf("%s calls %s", f.path, x.Name)
				}
			}
			return true
		})
	}
}

func TestLayout(t *testing.T) {
	for _, f := range programFiles(t) {
		if laid, err := format.Source(f.text); err != nil || !bytes.Equal(laid, f.text) {
			t.Errorf("%s is not in gofmt's layout", f.path)
		}
		for _, group := range f.tree.Comments {
			for _, c := range group.List {
				if strings.HasPrefix(c.Text, "//go:") || strings.HasPrefix(c.Text, "// +build") {
					t.Errorf("%s: %s", f.path, c.Text)
				}
			}
		}
	}
}

func TestFunctionsAreShort(t *testing.T) {
	for _, f := range programFiles(t) {
		for _, d := range f.tree.Decls {
			if x, ok := d.(*ast.FuncDecl); ok {
				if n := f.set.Position(x.End()).Line - f.set.Position(x.Pos()).Line + 1; n > 60 {
					t.Errorf("%s: %s has %d lines", f.path, x.Name.Name, n)
				}
			}
		}
	}
}

// wrongValue says what is wrong with the value of a variable at package level.
func wrongValue(v ast.Expr) string {
	if c, ok := v.(*ast.CallExpr); ok {
		if s, ok := c.Fun.(*ast.SelectorExpr); ok {
			if p, ok := s.X.(*ast.Ident); ok && p.Name == "errors" && s.Sel.Name == "New" {
				return ""
			}
		}
	}
	wrong := ""
	ast.Inspect(v, func(n ast.Node) bool {
		switch x := n.(type) {
		case *ast.CallExpr:
			wrong = "a call"
		case *ast.FuncLit:
			wrong = "a function"
		case *ast.MapType:
			wrong = "a map"
		case *ast.UnaryExpr:
			if x.Op == token.AND {
				wrong = "a pointer"
			}
		case *ast.BasicLit:
			if x.Kind == token.FLOAT {
				wrong = "a float"
			}
		}
		return wrong == ""
	})
	if b, ok := v.(*ast.BasicLit); ok && b.Kind == token.STRING {
		wrong = "a text that is no constant"
	}
	return wrong
}

func TestPackageLevel(t *testing.T) {
	for _, f := range programFiles(t) {
		for _, d := range f.tree.Decls {
			if x, ok := d.(*ast.FuncDecl); ok && x.Recv == nil && x.Name.Name == "init" {
				t.Errorf("%s has an init", f.path)
			}
			g, ok := d.(*ast.GenDecl)
			if !ok || g.Tok != token.VAR {
				continue
			}
			for _, s := range g.Specs {
				v := s.(*ast.ValueSpec)
				if len(v.Values) == 0 {
					t.Errorf("%s: %s has no value", f.path, v.Names[0].Name)
				}
				for i, x := range v.Values {
					if w := wrongValue(x); w != "" {
						t.Errorf("%s: %s is %s", f.path, v.Names[i].Name, w)
					}
				}
			}
		}
	}
}

// TestNoOtherFiles: beside the Go files nothing lies in the packages.
func TestNoOtherFiles(t *testing.T) {
	for _, f := range programFiles(t) {
		entries, err := os.ReadDir(filepath.Dir(f.path))
		if err != nil {
			t.Fatal(err)
		}
		for _, e := range entries {
			if !e.IsDir() && !strings.HasSuffix(e.Name(), ".go") {
				t.Errorf("%s holds %s", f.folder, e.Name())
			}
		}
	}
}

func TestModule(t *testing.T) {
	text, err := os.ReadFile("../go.mod")
	if err != nil {
		t.Fatal(err)
	}
	if got := strings.Join(strings.Fields(string(text)), " "); got != "module amalgam go 1.27" {
		t.Errorf("go.mod: %s", got)
	}
}
