package step_test

import (
	"math/rand"
	"slices"
	"strconv"
	"strings"
	"testing"

	"amalgam/api"
	"amalgam/canon"
	"amalgam/sig"
	"amalgam/terms"
	"amalgam/text"
)

func v(name string) api.Term { return api.Term{Var: name} }

func sy(sym int, args ...api.Term) api.Term { return api.Term{Sym: sym, Args: args} }

func eq(l, r api.Term) api.Equation { return api.Equation{L: l, R: r} }

func bind(name string, t api.Term) api.Bind { return api.Bind{Var: name, T: t} }

// The symbols of example; the first five are the document's.
const a, one, f, plus, times, b, g, h, k = 0, 1, 2, 3, 4, 5, 6, 7, 8

func example() api.Signature {
	return api.Signature{
		{Name: "a", Kind: api.Free},
		{Name: "one", Kind: api.Free},
		{Name: "f", Kind: api.Free, Arity: 2},
		{Name: "plus", Kind: api.AC, Arity: 2},
		{Name: "times", Kind: api.ACU, Arity: 2, Unit: "one"},
		{Name: "b", Kind: api.Free},
		{Name: "g", Kind: api.Free, Arity: 1},
		{Name: "h", Kind: api.Free, Arity: 3},
		{Name: "k", Kind: api.Free, Arity: 4},
	}
}

// sumFirst has an AC symbol at the place 0, which is each variable's Sym, too, and an ACU symbol at the last place.
func sumFirst() api.Signature {
	return api.Signature{
		{Name: "or", Kind: api.AC, Arity: 2},
		{Name: "no", Kind: api.Free},
		{Name: "h", Kind: api.Free, Arity: 3},
		{Name: "and", Kind: api.ACU, Arity: 2, Unit: "no"},
	}
}

// freeFirst has a free symbol with arguments at the place 0, and no other kind.
func freeFirst() api.Signature {
	return api.Signature{
		{Name: "p", Kind: api.Free, Arity: 2},
		{Name: "c", Kind: api.Free},
		{Name: "q", Kind: api.Free, Arity: 1},
	}
}

func signatures() []api.Signature {
	return []api.Signature{example(), sumFirst(), sig.Plain(example()), freeFirst()}
}

func TestSignaturesAreRight(t *testing.T) {
	for i, s := range signatures() {
		if e, at := sig.Check(s); e != api.OK {
			t.Errorf("signature %d: %d at %d", i, e, at)
		}
	}
}

// term reads a term by example, and makes it canonical by its plain signature.
func term(t *testing.T, line string) api.Term {
	t.Helper()
	x, e, at := text.Term(example(), line)
	if e != api.OK {
		t.Fatalf("%s: %d at %d", line, e, at)
	}
	return canon.Canon(sig.Plain(example()), x)
}

// equation reads two terms.
func equation(t *testing.T, line string) api.Equation {
	t.Helper()
	l, r, ok := strings.Cut(line, " = ")
	if !ok {
		t.Fatal(line)
	}
	return eq(term(t, l), term(t, r))
}

// equations reads a list; of an empty line none.
func equations(t *testing.T, line string) []api.Equation {
	t.Helper()
	var l []api.Equation
	for _, x := range strings.Split(line, "; ") {
		if x != "" {
			l = append(l, equation(t, x))
		}
	}
	return l
}

// binds reads binds.
func binds(t *testing.T, line string) []api.Bind {
	t.Helper()
	l, e, at := text.Binds(example(), line)
	if e != api.OK {
		t.Fatalf("%s: %d at %d", line, e, at)
	}
	return l
}

// written tells all of a term, so that two terms with one text are alike in every field.
func written(t api.Term) string {
	var b strings.Builder
	write(&b, t)
	return b.String()
}

func write(b *strings.Builder, t api.Term) {
	b.WriteString(t.Var + "'" + strconv.Itoa(t.Sym))
	if len(t.Args) == 0 {
		return
	}
	b.WriteString("(")
	for _, x := range t.Args {
		write(b, x)
		b.WriteString(" ")
	}
	b.WriteString(")")
}

func writtenBinds(l []api.Bind) string {
	var texts []string
	for _, x := range l {
		texts = append(texts, x.Var+" -> "+written(x.T))
	}
	return strings.Join(texts, "; ")
}

func writtenEquations(l []api.Equation) string {
	var texts []string
	for _, x := range l {
		texts = append(texts, written(x.L)+" = "+written(x.R))
	}
	return strings.Join(texts, "; ")
}

// writtenWay tells all fields of a way.
func writtenWay(w api.Way) string {
	return strconv.Itoa(int(w.Act)) + " | " + writtenBinds([]api.Bind{w.Bind}) + " | " + writtenEquations(w.L) + " | " + strconv.Itoa(w.Sym)
}

// tower is a term of just n nodes, one within the other, by a symbol that takes one argument.
func tower(sym, n int, leaf api.Term) api.Term {
	t := leaf
	for range n - 1 {
		t = sy(sym, t)
	}
	return t
}

// row is the chapter's table said again.
func row(s api.Signature, e api.Equation) api.Way {
	l, r := e.L, e.R
	if written(l) == written(r) {
		return api.Way{Act: api.Done}
	}
	if l.Var != "" && r.Var != "" {
		names := []string{l.Var, r.Var}
		slices.Sort(names)
		return api.Way{Act: api.Set, Bind: bind(names[1], v(names[0]))}
	}
	for _, x := range [][2]api.Term{{l, r}, {r, l}} {
		if x[0].Var == "" {
			continue
		}
		for _, y := range terms.All(x[1]) {
			if y.Var == x[0].Var {
				return api.Way{Act: api.Fail}
			}
		}
		return api.Way{Act: api.Set, Bind: bind(x[0].Var, x[1])}
	}
	if l.Sym != r.Sym {
		return api.Way{Act: api.Fail}
	}
	if s[l.Sym].Kind != api.Free {
		return api.Way{Act: api.Pure, Sym: l.Sym}
	}
	if len(l.Args) != len(r.Args) {
		return api.Way{Act: api.Fail}
	}
	w := api.Way{Act: api.Parts}
	for i, x := range l.Args {
		w.L = append(w.L, eq(x, r.Args[i]))
	}
	return w
}

// with puts a term in the places of a variable, from the last place on, so that the places ahead stay where they are.
func with(name string, x, t api.Term) api.Term {
	var paths [][]int
	for path, y := range terms.All(t) {
		if y.Var == name {
			paths = append(paths, path)
		}
	}
	for _, path := range slices.Backward(paths) {
		t, _ = terms.Put(t, path, x)
	}
	return t
}

// freely is the chapter's Free said again, word by word.
func freely(s api.Signature, in []api.Equation) ([]api.Bind, bool, api.Errno) {
	for _, e := range in {
		for _, x := range []api.Term{e.L, e.R} {
			for _, y := range terms.All(x) {
				if y.Var == "" && (y.Sym < 0 || y.Sym > len(s)-1 || s[y.Sym].Kind != api.Free) {
					return nil, false, api.ErrArg
				}
			}
		}
	}
	l, bound := slices.Clone(in), map[string]api.Term{}
	for len(l) > 0 {
		w := row(s, l[0])
		l = l[1:]
		switch w.Act {
		case api.Fail:
			return nil, false, api.OK
		case api.Parts:
			l = slices.Concat(w.L, l)
		case api.Set:
			grown := false
			put := func(t api.Term) api.Term {
				t = with(w.Bind.Var, w.Bind.T, t)
				grown = grown || terms.Size(t) > 400
				return t
			}
			var others []api.Equation
			for _, e := range l {
				others = append(others, eq(put(e.L), put(e.R)))
			}
			l = others
			for name, t := range bound {
				bound[name] = put(t)
			}
			if grown {
				return nil, false, api.ErrSubstGrown
			}
			bound[w.Bind.Var] = w.Bind.T
		}
	}
	var told []api.Bind
	for name, t := range bound {
		told = append(told, bind(name, t))
	}
	slices.SortFunc(told, func(x, y api.Bind) int { return strings.Compare(x.Var, y.Var) })
	return told, true, api.OK
}

// maker makes terms by a rule that is the same at each run.
type maker struct{ *rand.Rand }

func newMaker(seed int64) maker { return maker{rand.New(rand.NewSource(seed))} }

func varNames() []string { return []string{"X", "Xa", "Y", "Z", "_1", "_10", "_2"} }

// right makes a right term of about so many nodes.
func (m maker) right(s api.Signature, n int) api.Term {
	var fitting []int
	for sym, x := range s {
		if (x.Kind == api.Free && x.Arity == 0) == (n < 3) {
			fitting = append(fitting, sym)
		}
	}
	if n < 3 && m.Intn(3) > 0 || len(fitting) == 0 {
		return v(varNames()[m.Intn(len(varNames()))])
	}
	sym := fitting[m.Intn(len(fitting))]
	many := s[sym].Arity
	if s[sym].Kind != api.Free {
		many += m.Intn(3)
	}
	var args []api.Term
	for range many {
		args = append(args, m.right(s, (n-1)/many))
	}
	return sy(sym, args...)
}

// canonical makes a term that is canonical by the plain signature.
func (m maker) canonical(s api.Signature, n int) api.Term {
	return canon.Canon(sig.Plain(s), m.right(s, n))
}

// changed is a term with something else at some places, so that it has much in common with the other one.
func (m maker) changed(s api.Signature, t api.Term) api.Term {
	t = terms.Clone(t)
	for range 1 + m.Intn(3) {
		at := &t
		for len(at.Args) > 0 && m.Intn(5) > 0 {
			at = &at.Args[m.Intn(len(at.Args))]
		}
		*at = m.right(s, 1+m.Intn(4))
	}
	return t
}

// spoilt makes a term of which some nodes are wrong.
func (m maker) spoilt(s api.Signature, n int) api.Term {
	t := m.right(s, n)
	for range m.Intn(4) {
		at := &t
		for len(at.Args) > 0 && m.Intn(4) > 0 {
			at = &at.Args[m.Intn(len(at.Args))]
		}
		switch m.Intn(5) {
		case 0:
			at.Var = []string{"X", "Y", "x", "", "_0", "Abcdefghijklm"}[m.Intn(6)]
		case 1:
			at.Sym = []int{-1, 0, 1, 3, 5, 99, -1 << 63, 1<<63 - 1}[m.Intn(8)]
		case 2:
			at.Args = at.Args[:m.Intn(len(at.Args)+1)]
		default:
			at.Args = slices.Insert(slices.Clone(at.Args), m.Intn(len(at.Args)+1), m.right(s, 3))
		}
	}
	return t
}

// smallTerms are all right terms of a signature, of at most n nodes, with these variables.
func smallTerms(s api.Signature, n int, vars ...string) []api.Term {
	bySize := make([][]api.Term, n+1)
	for _, name := range vars {
		bySize[1] = append(bySize[1], v(name))
	}
	for size := 1; size <= n; size++ {
		for _, l := range argumentLists(bySize, size-1) {
			for sym, x := range s {
				if x.Kind == api.Free && x.Arity == len(l) || x.Kind != api.Free && len(l) > 1 {
					bySize[size] = append(bySize[size], sy(sym, l...))
				}
			}
		}
	}
	return slices.Concat(bySize...)
}

// argumentLists are all lists of terms with so many nodes in all.
func argumentLists(bySize [][]api.Term, nodes int) [][]api.Term {
	if nodes == 0 {
		return [][]api.Term{nil}
	}
	var l [][]api.Term
	for first := 1; first <= nodes; first++ {
		for _, rest := range argumentLists(bySize, nodes-first) {
			for _, x := range bySize[first] {
				l = append(l, append([]api.Term{x}, rest...))
			}
		}
	}
	return l
}

// smallCanonical are those of the small terms that are canonical by the plain signature.
func smallCanonical(s api.Signature, n int, vars ...string) []api.Term {
	plain := sig.Plain(s)
	return slices.DeleteFunc(smallTerms(s, n, vars...), func(x api.Term) bool { return !canon.Is(plain, x) })
}
