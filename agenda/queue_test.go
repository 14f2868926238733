package agenda

import (
	"container/heap"
	"go/ast"
	"go/parser"
	"go/token"
	"math/rand"
	"os"
	"strings"
	"testing"
)

// Ways: the library's calls come back through its interface.
var _ heap.Interface = (*queue[string])(nil)

// Ways: what is in lies as a heap, each entry knows its place, and the table of tickets has just what is in.
func TestQueueIsAHeap(t *testing.T) {
	m := rand.New(rand.NewSource(7))
	a, _ := New[int](40)
	for range 5000 {
		switch ticket, weight := m.Intn(a.last+2), m.Intn(9); m.Intn(6) {
		case 0, 1, 2:
			a.Push(m.Int(), weight)
		case 3:
			a.Pop()
		case 4:
			a.Drop(ticket)
		case 5:
			a.Weigh(a.last-ticket%50, weight)
		}
		if len(a.held) != len(a.queue) {
			t.Fatalf("%d tickets of %d things", len(a.held), len(a.queue))
		}
		for i, e := range a.queue {
			if e.at != i || a.held[e.ticket] != e {
				t.Fatalf("%d of ticket %d is told to be at %d", i, e.ticket, e.at)
			}
			if i > 0 && a.queue.Less(i, (i-1)/2) {
				t.Fatalf("%d comes ahead of the one above it", i)
			}
		}
		for i, e := range a.queue[len(a.queue):cap(a.queue)] {
			if e != nil {
				t.Fatalf("place %d behind the end holds a thing", i)
			}
		}
	}
}

// Ways: the library's heap does the work: it is called for what comes in, goes out and changes its weight.
func TestTheLibraryIsCalled(t *testing.T) {
	called := map[string]int{}
	entries, err := os.ReadDir(".")
	if err != nil {
		t.Fatal(err)
	}
	for _, f := range entries {
		if !strings.HasSuffix(f.Name(), ".go") || strings.HasSuffix(f.Name(), "_test.go") {
			continue
		}
		tree, err := parser.ParseFile(token.NewFileSet(), f.Name(), nil, 0)
		if err != nil {
			t.Fatal(err)
		}
		ast.Inspect(tree, func(n ast.Node) bool {
			if c, ok := n.(*ast.CallExpr); ok {
				if s, ok := c.Fun.(*ast.SelectorExpr); ok {
					if p, ok := s.X.(*ast.Ident); ok && p.Name == "heap" {
						called[s.Sel.Name]++
					}
				}
			}
			return true
		})
	}
	if called["Push"] == 0 || called["Remove"]+called["Pop"] == 0 || called["Fix"] == 0 {
		t.Errorf("of container/heap these are called: %v", called)
	}
}
