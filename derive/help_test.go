package derive_test

import (
	"math/rand"
	"slices"
	"strconv"
	"strings"
	"testing"

	"amalgam/api"
	"amalgam/derive"
	"amalgam/sig"
	"amalgam/terms"
	"amalgam/text"
)

func v(name string) api.Term { return api.Term{Var: name} }

func sy(sym int, args ...api.Term) api.Term { return api.Term{Sym: sym, Args: args} }

// The symbols of exampleSignature.
const a, one, f, plus, times = 0, 1, 2, 3, 4

func exampleSignature() api.Signature {
	return api.Signature{
		{Name: "a", Kind: api.Free},
		{Name: "one", Kind: api.Free},
		{Name: "f", Kind: api.Free, Arity: 2},
		{Name: "plus", Kind: api.AC, Arity: 2},
		{Name: "times", Kind: api.ACU, Arity: 2, Unit: "one"},
	}
}

// The symbols of wideSignature.
const or, no, and, zero, sum, both = 0, 1, 2, 3, 4, 5

// wideSignature has an AC symbol at the place 0, which is each variable's Sym, too; two symbols with one unit; and more than one symbol of each kind.
func wideSignature() api.Signature {
	return api.Signature{
		{Name: "or", Kind: api.AC, Arity: 2},
		{Name: "no", Kind: api.Free},
		{Name: "and", Kind: api.ACU, Arity: 2, Unit: "no"},
		{Name: "zero", Kind: api.Free},
		{Name: "sum", Kind: api.ACU, Arity: 2, Unit: "zero"},
		{Name: "both", Kind: api.ACU, Arity: 2, Unit: "no"},
		{Name: "g", Kind: api.Free, Arity: 1},
		{Name: "h", Kind: api.Free, Arity: 3},
		{Name: "k", Kind: api.AC, Arity: 2},
	}
}

// unitFirst has a unit at the place 0, which is each variable's Sym, too.
func unitFirst() api.Signature {
	return api.Signature{
		{Name: "e", Kind: api.Free},
		{Name: "mul", Kind: api.ACU, Arity: 2, Unit: "e"},
		{Name: "b", Kind: api.Free},
	}
}

func signatures() []api.Signature {
	return []api.Signature{exampleSignature(), wideSignature(), unitFirst()}
}

func TestSignaturesAreRight(t *testing.T) {
	for i, s := range signatures() {
		if e, at := sig.Check(s); e != api.OK {
			t.Errorf("signature %d: %d at %d", i, e, at)
		}
	}
}

// read is a term by its text.
func read(t *testing.T, s api.Signature, in string) api.Term {
	t.Helper()
	x, e, at := text.Term(s, in)
	if e != api.OK {
		t.Fatalf("%q: %d at %d", in, e, at)
	}
	return x
}

// tm is a term of exampleSignature by its text.
func tm(t *testing.T, in string) api.Term {
	t.Helper()
	return read(t, exampleSignature(), in)
}

func flat(at int, path ...int) api.Step { return api.Step{Kind: api.Flat, At: at, Path: path} }

func group(at, many int, path ...int) api.Step {
	return api.Step{Kind: api.Group, At: at, Many: many, Path: path}
}

func swap(at int, path ...int) api.Step { return api.Step{Kind: api.Swap, At: at, Path: path} }

func drop(at int, path ...int) api.Step { return api.Step{Kind: api.Drop, At: at, Path: path} }

func grow(sym, many, at int, path ...int) api.Step {
	return api.Step{Kind: api.Grow, At: at, Many: many, Sym: sym, Path: path}
}

// written tells all of a term, so that two terms with one text are alike in every field.
func written(t api.Term) string {
	var b strings.Builder
	write(&b, t)
	return b.String()
}

func write(b *strings.Builder, t api.Term) {
	b.WriteString(t.Var + "'" + strconv.Itoa(t.Sym))
	if len(t.Args) == 0 {
		return
	}
	b.WriteString("(")
	for _, x := range t.Args {
		write(b, x)
		b.WriteString(" ")
	}
	b.WriteString(")")
}

func writtenStep(x api.Step) string {
	var b strings.Builder
	for _, n := range []int{int(x.Kind), x.At, x.Many, x.Sym} {
		b.WriteString(strconv.Itoa(n) + " ")
	}
	b.WriteString("at")
	for _, n := range x.Path {
		b.WriteString(" " + strconv.Itoa(n))
	}
	return b.String()
}

func writtenSteps(l []api.Step) string {
	var texts []string
	for _, x := range l {
		texts = append(texts, writtenStep(x))
	}
	return strings.Join(texts, "; ")
}

func wantTerm(t *testing.T, what string, got, want api.Term) {
	t.Helper()
	if written(got) != written(want) {
		t.Errorf("%s: %s; want %s", what, written(got), written(want))
	}
}

func isZero(x api.Term) bool { return x.Var == "" && x.Sym == 0 && len(x.Args) == 0 }

func isZeroStep(x api.Step) bool {
	return x.Kind == 0 && len(x.Path) == 0 && x.At == 0 && x.Many == 0 && x.Sym == 0
}

// wantNone: Do and Back refuse a step, with zero answers.
func wantNone(t *testing.T, s api.Signature, x api.Term, p api.Step) {
	t.Helper()
	if y, e := derive.Do(s, x, p); e != api.ErrDeriveStep || !isZero(y) {
		t.Errorf("Do of %s, %s: %s, %d", written(x), writtenStep(p), written(y), e)
	}
	if b, e := derive.Back(s, x, p); e != api.ErrDeriveStep || !isZeroStep(b) {
		t.Errorf("Back of %s, %s: %s, %d", written(x), writtenStep(p), writtenStep(b), e)
	}
}

// wantStep: Do leads to a term, and Back is a step that leads back.
func wantStep(t *testing.T, s api.Signature, x api.Term, p api.Step, want api.Term, wantBack api.Step) {
	t.Helper()
	y, e := derive.Do(s, x, p)
	if e != api.OK || written(y) != written(want) {
		t.Errorf("Do of %s, %s: %s, %d; want %s", written(x), writtenStep(p), written(y), e, written(want))
	}
	b, e := derive.Back(s, x, p)
	if e != api.OK || writtenStep(b) != writtenStep(wantBack) {
		t.Errorf("Back of %s, %s: %s, %d; want %s", written(x), writtenStep(p), writtenStep(b), e, writtenStep(wantBack))
	}
	if z, e := derive.Do(s, y, b); e != api.OK || written(z) != written(x) {
		t.Errorf("%s, %s, and back, %s: %s, %d", written(x), writtenStep(p), writtenStep(b), written(z), e)
	}
}

// kindOf is the kind of a node's symbol; 0 of a variable.
func kindOf(s api.Signature, n api.Term) api.Kind {
	if n.Var != "" {
		return 0
	}
	return s[n.Sym].Kind
}

// unitOf is a symbol's unit by the names alone.
func unitOf(s api.Signature, sym int) api.Term {
	return sy(slices.IndexFunc(s, func(x api.Symbol) bool { return x.Name == s[sym].Unit }))
}

// said says the chapter's table again, row by row, and what it says of Back: the node's new form and the step that leads back, or false.
func said(s api.Signature, t api.Term, x api.Step) (api.Term, api.Step, bool) {
	n, e := terms.At(t, x.Path)
	if e != api.OK {
		return api.Term{}, api.Step{}, false
	}
	y, back, ok := saidOfNode(s, n, x)
	if !ok {
		return api.Term{}, api.Step{}, false
	}
	y, _ = terms.Put(t, x.Path, y)
	back.Path = x.Path
	return y, back, true
}

func saidOfNode(s api.Signature, n api.Term, x api.Step) (y api.Term, back api.Step, ok bool) {
	l, at := n.Args, x.At
	is := func(i int) bool { return 0 <= i && i < len(l) }
	moves := kindOf(s, n) == api.AC || kindOf(s, n) == api.ACU
	switch {
	case x.Kind == api.Flat && moves && is(at) && l[at].Var == "" && l[at].Sym == n.Sym:
		return sy(n.Sym, slices.Concat(l[:at], l[at].Args, l[at+1:])...), group(at, len(l[at].Args)), true
	case x.Kind == api.Group && moves && 2 <= x.Many && x.Many < len(l) && is(at) && is(at+x.Many-1):
		inner := sy(n.Sym, l[at:at+x.Many]...)
		return sy(n.Sym, slices.Concat(l[:at], []api.Term{inner}, l[at+x.Many:])...), flat(at), true
	case x.Kind == api.Swap && moves && is(at) && is(at+1):
		return sy(n.Sym, slices.Concat(l[:at], []api.Term{l[at+1], l[at]}, l[at+2:])...), swap(at), true
	case x.Kind == api.Drop && kindOf(s, n) == api.ACU && is(at) && written(l[at]) == written(unitOf(s, n.Sym)):
		if len(l) == 2 {
			return l[1-at], grow(n.Sym, 1, at), true
		}
		return sy(n.Sym, slices.Concat(l[:at], l[at+1:])...), grow(n.Sym, 0, at), true
	case x.Kind == api.Grow && 0 <= x.Sym && x.Sym < len(s) && s[x.Sym].Kind == api.ACU:
		unit := unitOf(s, x.Sym)
		switch {
		case x.Many == 0 && n.Var == "" && n.Sym == x.Sym && (is(at) || at == len(l)):
			return sy(n.Sym, slices.Concat(l[:at], []api.Term{unit}, l[at:])...), drop(at), true
		case x.Many == 1 && at == 0:
			return sy(x.Sym, unit, n), drop(0), true
		case x.Many == 1 && at == 1:
			return sy(x.Sym, n, unit), drop(1), true
		}
	}
	return y, back, false
}

// smallTerms are all right terms of a signature with the leaves X, Y (as many of them as vars says) and its constants, of at most n nodes.
func smallTerms(s api.Signature, vars, n int) []api.Term {
	bySize := make([][]api.Term, n+1)
	for _, name := range []string{"X", "Y"}[:vars] {
		bySize[1] = append(bySize[1], v(name))
	}
	for sym, x := range s {
		if x.Kind == api.Free && x.Arity == 0 {
			bySize[1] = append(bySize[1], sy(sym))
		}
	}
	for size := 2; size <= n; size++ {
		for _, l := range rows(bySize, size-1) {
			for sym, x := range s {
				if x.Kind == api.Free && x.Arity == len(l) || x.Kind != api.Free && len(l) > 1 {
					bySize[size] = append(bySize[size], sy(sym, l...))
				}
			}
		}
	}
	return slices.Concat(bySize...)
}

// rows are all rows of terms with so many nodes in all.
func rows(bySize [][]api.Term, nodes int) [][]api.Term {
	if nodes == 0 {
		return [][]api.Term{nil}
	}
	var l [][]api.Term
	for first := 1; first <= nodes; first++ {
		for _, rest := range rows(bySize, nodes-first) {
			for _, x := range bySize[first] {
				l = append(l, append([]api.Term{x}, rest...))
			}
		}
	}
	return l
}

// maker makes terms and steps by a rule that is the same at each run.
type maker struct{ *rand.Rand }

func newMaker(seed int64) maker { return maker{rand.New(rand.NewSource(seed))} }

// right makes a right term of at most n nodes.
func (m maker) right(s api.Signature, n int) api.Term {
	if n < 5 && m.Intn(3) == 0 || n < 3 {
		return m.leaf(s)
	}
	sym := m.Intn(len(s))
	count := s[sym].Arity
	if s[sym].Kind != api.Free {
		count = 2 + m.Intn(min(5, n-2))
	}
	if count > n-1 {
		return m.leaf(s)
	}
	args := make([]api.Term, count)
	for i := range args {
		args[i] = m.right(s, (n-1)/count)
	}
	return sy(sym, args...)
}

func (m maker) leaf(s api.Signature) api.Term {
	sym := m.Intn(len(s))
	if s[sym].Kind == api.Free && s[sym].Arity == 0 {
		return sy(sym)
	}
	return v([]string{"X", "Y", "Xy2", "_1", "_10", "_2"}[m.Intn(6)])
}

// step makes a step that may well be one of a term's.
func (m maker) step(s api.Signature, t api.Term) api.Step {
	x := api.Step{Kind: api.StepKind(1 + m.Intn(5)), Sym: m.Intn(len(s))}
	for len(t.Args) > 0 && m.Intn(3) > 0 {
		i := m.Intn(len(t.Args))
		x.Path, t = append(x.Path, i), t.Args[i]
	}
	x.At, x.Many = m.Intn(len(t.Args)+1), m.Intn(len(t.Args)+2)
	if x.Kind == api.Grow && m.Intn(2) == 0 {
		x.Many = m.Intn(2)
	}
	return x
}

// likely makes a step that can nearly always be done, by the chapter's table.
func (m maker) likely(s api.Signature, t api.Term) api.Step {
	for range 100 {
		x := m.step(s, t)
		if _, _, ok := said(s, t, x); ok {
			return x
		}
	}
	return m.step(s, t)
}

// stirred is an equal term: steps lead to it, of all kinds and at any places, as the chapter's table says them.
func (m maker) stirred(s api.Signature, t api.Term, many int) api.Term {
	for range many {
		if y, _, ok := said(s, t, m.likely(s, t)); ok {
			t = y
		}
	}
	return t
}

// manyTerms are small terms, greater ones, and ones with sums within sums and units among them.
func manyTerms(s api.Signature, n int) []api.Term {
	m := newMaker(int64(n) + 5)
	var l []api.Term
	for len(l) < n {
		l = append(l, m.right(s, 1+m.Intn(12)), m.right(s, 40), m.stirred(s, m.right(s, 12), 12))
	}
	return l
}
