package terms_test

import (
	"cmp"
	"math/rand"
	"slices"
	"strconv"
	"strings"
	"testing"

	"amalgam/api"
)

func v(name string) api.Term { return api.Term{Var: name} }

func sy(sym int, args ...api.Term) api.Term { return api.Term{Sym: sym, Args: args} }

// under is a variable that has arguments, though none may.
func under(name string, sym int, args ...api.Term) api.Term {
	return api.Term{Var: name, Sym: sym, Args: args}
}

// The symbols of exampleSignature.
const a, one, f, plus, times = 0, 1, 2, 3, 4

func exampleSignature() api.Signature {
	return api.Signature{
		{Name: "a", Kind: api.Free},
		{Name: "one", Kind: api.Free},
		{Name: "f", Kind: api.Free, Arity: 2},
		{Name: "plus", Kind: api.AC, Arity: 2},
		{Name: "times", Kind: api.ACU, Arity: 2, Unit: "one"},
	}
}

// exampleTerm is f(X, f(a, X)).
func exampleTerm() api.Term { return sy(f, v("X"), sy(f, sy(a), v("X"))) }

// row has n nodes, 3 at least: a symbol with n-1 arguments.
func row(n int) api.Term {
	return sy(plus, slices.Repeat([]api.Term{sy(a)}, n-1)...)
}

// chain has n nodes, each beneath the one ahead.
func chain(n int) api.Term {
	t := v("X")
	for range n - 1 {
		t = sy(one, t)
	}
	return t
}

// written tells all of a term, so that two terms with one text are alike in every field.
func written(t api.Term) string {
	var b strings.Builder
	b.WriteString(strconv.Quote(t.Var) + strconv.Itoa(t.Sym))
	if len(t.Args) > 0 {
		b.WriteString("(")
		for _, x := range t.Args {
			b.WriteString(written(x) + " ")
		}
		b.WriteString(")")
	}
	return b.String()
}

func wantTerm(t *testing.T, what string, got, want api.Term) {
	t.Helper()
	if written(got) != written(want) {
		t.Errorf("%s: %s; want %s", what, written(got), written(want))
	}
}

// place is a node, and where it stands.
type place struct {
	path []int
	x    api.Term
}

// allPlaces is the document's order of nodes, said again: they are found level by level, and put in order by their paths.
func allPlaces(t api.Term) []place {
	l := []place{{x: t}}
	for i := 0; i < len(l); i++ {
		for j, y := range l[i].x.Args {
			l = append(l, place{slices.Concat(l[i].path, []int{j}), y})
		}
	}
	slices.SortFunc(l, func(p, q place) int { return slices.Compare(p.path, q.path) })
	return l
}

// mark is a node as the order of terms sees it.
type mark struct {
	none      bool
	name      string
	sym, args int
}

// marks is a term as a row of marks: the first unlike ones of two rows decide the order of terms.
func marks(t api.Term) []mark {
	var l []mark
	var skipped [][]int
	for _, p := range allPlaces(t) {
		if slices.ContainsFunc(skipped, func(at []int) bool {
			return len(at) < len(p.path) && slices.Equal(at, p.path[:len(at)])
		}) {
			continue
		}
		if p.x.Var != "" {
			skipped = append(skipped, p.path)
			l = append(l, mark{name: p.x.Var})
		} else {
			l = append(l, mark{none: true, sym: p.x.Sym, args: len(p.x.Args)})
		}
	}
	return l
}

func compareMarks(a, b mark) int {
	if a.none != b.none {
		if b.none {
			return -1
		}
		return 1
	}
	return cmp.Or(cmp.Compare(a.name, b.name), cmp.Compare(a.sym, b.sym), cmp.Compare(a.args, b.args))
}

// smallTerms are all terms of a few variables and symbols, right ones and wrong ones, with one level of arguments, at most two.
func smallTerms() []api.Term {
	leaves := []api.Term{v("X"), v("Xa"), v("Y"), v("x"), sy(a), sy(one), sy(-1), under("X", 1)}
	heads := []api.Term{v("X"), v("Z"), sy(a), sy(one), sy(f), sy(plus), sy(times), sy(5), sy(-1)}
	l := slices.Concat(leaves, heads)
	for _, h := range heads {
		for _, x := range leaves {
			l = append(l, api.Term{Var: h.Var, Sym: h.Sym, Args: []api.Term{x}})
			for _, y := range leaves {
				l = append(l, api.Term{Var: h.Var, Sym: h.Sym, Args: []api.Term{x, y}})
			}
		}
	}
	return l
}

// maker makes terms by a rule that is the same at each run.
type maker struct{ *rand.Rand }

func newMaker(seed int64) maker { return maker{rand.New(rand.NewSource(seed))} }

// right makes a term of at most n nodes that is right by exampleSignature.
func (m maker) right(n int) api.Term {
	if n < 3 || m.Intn(5) == 0 {
		return []api.Term{v("X"), v("Y"), v("Xy2"), v("_1"), sy(a), sy(one)}[m.Intn(6)]
	}
	args := make([]api.Term, 2)
	sym := f + m.Intn(3)
	if sym != f {
		args = make([]api.Term, 2+m.Intn(min(3, n-2)))
	}
	for i := range args {
		args[i] = m.right((n - 1) / len(args))
	}
	return sy(sym, args...)
}

// spoilt makes a term of which some nodes are wrong.
func (m maker) spoilt(n int) api.Term {
	t := m.right(n)
	for range m.Intn(4) {
		at := &t
		for len(at.Args) > 0 && m.Intn(4) > 0 {
			at = &at.Args[m.Intn(len(at.Args))]
		}
		switch m.Intn(6) {
		case 0:
			at.Var = []string{"X", "x", "", "_0", "Abcdefghijklm"}[m.Intn(5)]
		case 1:
			at.Sym = []int{-1, 1, 4, 5, 99}[m.Intn(5)]
		case 2:
			at.Args = at.Args[:m.Intn(len(at.Args)+1)]
		default:
			at.Args = slices.Insert(slices.Clone(at.Args), m.Intn(len(at.Args)+1), m.right(3))
		}
	}
	return t
}

// manyTerms are terms of all sorts up to some 100 nodes.
func manyTerms(n int) []api.Term {
	m := newMaker(3)
	l := smallTerms()
	for len(l) < n {
		l = append(l, m.right(1+m.Intn(40)), m.spoilt(1+m.Intn(12)), m.spoilt(20+m.Intn(80)))
	}
	return l
}
