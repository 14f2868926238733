package subst_test

import (
	"math/rand"
	"slices"
	"strconv"
	"strings"
	"testing"

	"amalgam/api"
	"amalgam/canon"
	"amalgam/sig"
	"amalgam/subst"
	"amalgam/terms"
	"amalgam/text"
)

func v(name string) api.Term { return api.Term{Var: name} }

func sy(sym int, args ...api.Term) api.Term { return api.Term{Sym: sym, Args: args} }

func bind(name string, t api.Term) api.Bind { return api.Bind{Var: name, T: t} }

// The symbols of exampleSignature.
const a, one, f, plus, times = 0, 1, 2, 3, 4

func exampleSignature() api.Signature {
	return api.Signature{
		{Name: "a", Kind: api.Free},
		{Name: "one", Kind: api.Free},
		{Name: "f", Kind: api.Free, Arity: 2},
		{Name: "plus", Kind: api.AC, Arity: 2},
		{Name: "times", Kind: api.ACU, Arity: 2, Unit: "one"},
	}
}

// tm is a term of exampleSignature by its text.
func tm(t *testing.T, in string) api.Term {
	t.Helper()
	x, e, at := text.Term(exampleSignature(), in)
	if e != api.OK {
		t.Fatalf("%q: %d at %d", in, e, at)
	}
	return x
}

// bs are binds of exampleSignature by their text.
func bs(t *testing.T, in string) []api.Bind {
	t.Helper()
	b, e, at := text.Binds(exampleSignature(), in)
	if e != api.OK {
		t.Fatalf("%q: %d at %d", in, e, at)
	}
	return b
}

// The symbols of wideSignature.
const or, no, and, zero, sum, both, g, h = 0, 1, 2, 3, 4, 5, 6, 7

// wideSignature has an AC symbol at the place 0, which is each variable's Sym, too; two symbols with one unit; and more than one symbol of each kind.
func wideSignature() api.Signature {
	return api.Signature{
		{Name: "or", Kind: api.AC, Arity: 2},
		{Name: "no", Kind: api.Free},
		{Name: "and", Kind: api.ACU, Arity: 2, Unit: "no"},
		{Name: "zero", Kind: api.Free},
		{Name: "sum", Kind: api.ACU, Arity: 2, Unit: "zero"},
		{Name: "both", Kind: api.ACU, Arity: 2, Unit: "no"},
		{Name: "g", Kind: api.Free, Arity: 1},
		{Name: "h", Kind: api.Free, Arity: 3},
		{Name: "k", Kind: api.AC, Arity: 2},
	}
}

// unitFirst has a unit at the place 0, which is each variable's Sym, too.
func unitFirst() api.Signature {
	return api.Signature{
		{Name: "e", Kind: api.Free},
		{Name: "mul", Kind: api.ACU, Arity: 2, Unit: "e"},
		{Name: "b", Kind: api.Free},
	}
}

func signatures() []api.Signature {
	return []api.Signature{exampleSignature(), wideSignature(), unitFirst()}
}

func TestSignaturesAreRight(t *testing.T) {
	for i, s := range signatures() {
		if e, at := sig.Check(s); e != api.OK {
			t.Errorf("signature %d: %d at %d", i, e, at)
		}
	}
}

// written tells all of a term, so that two terms with one text are alike in every field.
func written(t api.Term) string {
	var b strings.Builder
	write(&b, t)
	return b.String()
}

func write(b *strings.Builder, t api.Term) {
	b.WriteString(t.Var + "'" + strconv.Itoa(t.Sym))
	if len(t.Args) == 0 {
		return
	}
	b.WriteString("(")
	for _, x := range t.Args {
		write(b, x)
		b.WriteString(" ")
	}
	b.WriteString(")")
}

func writtenBinds(l []api.Bind) string {
	var texts []string
	for _, x := range l {
		texts = append(texts, x.Var+" -> "+written(x.T))
	}
	return strings.Join(texts, "; ")
}

func wantTerm(t *testing.T, what string, got, want api.Term) {
	t.Helper()
	if written(got) != written(want) {
		t.Errorf("%s: %s; want %s", what, written(got), written(want))
	}
}

func wantBinds(t *testing.T, what string, got, want []api.Bind) {
	t.Helper()
	if writtenBinds(got) != writtenBinds(want) {
		t.Errorf("%s: %s; want %s", what, writtenBinds(got), writtenBinds(want))
	}
}

// isZero: is a term zero, with no list that has anything in it?
func isZero(x api.Term) bool { return x.Var == "" && x.Sym == 0 && len(x.Args) == 0 }

// row is a canonical sum of just n nodes, 3 at least.
func row(n int) api.Term { return sy(plus, slices.Repeat([]api.Term{sy(a)}, n-1)...) }

func moves(s api.Signature, t api.Term) bool {
	return t.Var == "" && s[t.Sym].Kind != api.Free
}

// unitOf is a symbol's unit by the names alone; -1, if it has none.
func unitOf(s api.Signature, sym int) int {
	if s[sym].Kind != api.ACU {
		return -1
	}
	return slices.IndexFunc(s, func(x api.Symbol) bool { return x.Name == s[sym].Unit })
}

// topSteps are the terms that one step by the axioms at the top leads to, of those that make no term longer.
func topSteps(s api.Signature, t api.Term) []api.Term {
	if !moves(s, t) {
		return nil
	}
	var l []api.Term
	for i, x := range t.Args {
		if x.Var == "" && x.Sym == t.Sym {
			l = append(l, sy(t.Sym, slices.Concat(t.Args[:i], x.Args, t.Args[i+1:])...))
		}
		if x.Var == "" && x.Sym == unitOf(s, t.Sym) {
			rest := slices.Concat(t.Args[:i], t.Args[i+1:])
			if len(rest) == 1 {
				l = append(l, rest[0])
			} else {
				l = append(l, sy(t.Sym, rest...))
			}
		}
		if i > 0 {
			l = append(l, sy(t.Sym, slices.Concat(t.Args[:i-1], []api.Term{x, t.Args[i-1]}, t.Args[i+1:])...))
		}
	}
	return l
}

// smallTerms are all right terms of a signature with the leaves X, Y (as many of them as vars says) and its constants, of at most n nodes.
func smallTerms(s api.Signature, vars, n int) []api.Term {
	bySize := make([][]api.Term, n+1)
	for _, name := range []string{"X", "Y"}[:vars] {
		bySize[1] = append(bySize[1], v(name))
	}
	for sym, x := range s {
		if x.Kind == api.Free && x.Arity == 0 {
			bySize[1] = append(bySize[1], sy(sym))
		}
	}
	for size := 2; size <= n; size++ {
		for _, l := range rows(bySize, size-1) {
			for sym, x := range s {
				if x.Kind == api.Free && x.Arity == len(l) || x.Kind != api.Free && len(l) > 1 {
					bySize[size] = append(bySize[size], sy(sym, l...))
				}
			}
		}
	}
	return slices.Concat(bySize...)
}

// rows are all rows of terms with so many nodes in all.
func rows(bySize [][]api.Term, nodes int) [][]api.Term {
	if nodes == 0 {
		return [][]api.Term{nil}
	}
	var l [][]api.Term
	for first := 1; first <= nodes; first++ {
		for _, rest := range rows(bySize, nodes-first) {
			for _, x := range bySize[first] {
				l = append(l, append([]api.Term{x}, rest...))
			}
		}
	}
	return l
}

// maker makes terms by a rule that is the same at each run.
type maker struct{ *rand.Rand }

func newMaker(seed int64) maker { return maker{rand.New(rand.NewSource(seed))} }

// right makes a right term of at most n nodes.
func (m maker) right(s api.Signature, n int) api.Term {
	if n < 5 && m.Intn(3) == 0 || n < 3 {
		return m.leaf(s)
	}
	sym := m.Intn(len(s))
	count := s[sym].Arity
	if s[sym].Kind != api.Free {
		count = 2 + m.Intn(min(5, n-2))
	}
	if count > n-1 {
		return m.leaf(s)
	}
	args := make([]api.Term, count)
	for i := range args {
		args[i] = m.right(s, (n-1)/count)
	}
	return sy(sym, args...)
}

func (m maker) leaf(s api.Signature) api.Term {
	sym := m.Intn(len(s))
	if s[sym].Kind == api.Free && s[sym].Arity == 0 {
		return sy(sym)
	}
	return v(varNames()[m.Intn(len(varNames()))])
}

// stirred is an equal term: some steps by the axioms, at any places, lead to it; those that make it longer are among them.
func (m maker) stirred(s api.Signature, t api.Term, many int) api.Term {
	t = terms.Clone(t)
	for range many {
		path := []int{}
		at := t
		for len(at.Args) > 0 && m.Intn(3) > 0 {
			i := m.Intn(len(at.Args))
			path, at = append(path, i), at.Args[i]
		}
		t, _ = terms.Put(t, path, m.stirredTop(s, at))
	}
	return t
}

func (m maker) stirredTop(s api.Signature, t api.Term) api.Term {
	if m.Intn(4) == 0 {
		return m.grown(s, t)
	}
	if !moves(s, t) {
		return t
	}
	if m.Intn(3) == 0 && len(t.Args) > 2 {
		from := m.Intn(len(t.Args) - 1)
		to := from + 2 + m.Intn(len(t.Args)-from-1)
		if to-from < len(t.Args) {
			return sy(t.Sym, slices.Concat(t.Args[:from], []api.Term{sy(t.Sym, t.Args[from:to]...)}, t.Args[to:])...)
		}
	}
	l := topSteps(s, t)
	return l[m.Intn(len(l))]
}

// grown puts a unit beside a term.
func (m maker) grown(s api.Signature, t api.Term) api.Term {
	sym := m.Intn(len(s))
	unit := unitOf(s, sym)
	if unit < 0 {
		return t
	}
	if m.Intn(2) == 0 {
		return sy(sym, t, sy(unit))
	}
	return sy(sym, sy(unit), t)
}

// varNames are names of variables, in order.
func varNames() []string {
	return []string{"X", "Xy2", "Y", "Z", "_1", "_10", "_2", "_9"}
}

// substitution makes a substitution of some variables, with terms of at most n nodes.
func (m maker) substitution(s api.Signature, n int) []api.Bind {
	var b []api.Bind
	for _, name := range varNames() {
		x := canon.Canon(s, m.right(s, n))
		if m.Intn(2) == 0 && x.Var != name {
			b = append(b, bind(name, x))
		}
	}
	return b
}

// wide makes a right term of a symbol that takes any number of arguments, of up to n of them.
func (m maker) wide(s api.Signature, n int) api.Term {
	sym := m.Intn(len(s))
	for s[sym].Kind == api.Free {
		sym = m.Intn(len(s))
	}
	x := sy(sym)
	for range 2 + m.Intn(n-1) {
		x.Args = append(x.Args, m.right(s, 3))
	}
	return x
}

// wideSubstitution makes a substitution that lets terms grow.
func (m maker) wideSubstitution(s api.Signature, n int) []api.Bind {
	b := m.substitution(s, 12)
	for i := range b {
		b[i].T = canon.Canon(s, m.wide(s, n))
		if b[i].T.Var != "" {
			b[i].T = sy(slices.IndexFunc(s, func(x api.Symbol) bool { return x.Kind == api.Free && x.Arity == 0 }))
		}
	}
	return b
}

func TestSubstitutionsAreSo(t *testing.T) {
	for _, s := range signatures() {
		m := newMaker(3)
		for range 300 {
			for _, b := range [][]api.Bind{m.substitution(s, 12), m.wideSubstitution(s, 30)} {
				if e, at := subst.Check(s, b); e != api.OK || at != 0 {
					t.Fatalf("Check of %s: %d, %d", writtenBinds(b), e, at)
				}
			}
		}
	}
}
