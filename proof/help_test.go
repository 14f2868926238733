package proof_test

import (
	"math/rand"
	"slices"
	"strconv"
	"strings"
	"testing"

	"amalgam/api"
	"amalgam/canon"
	"amalgam/derive"
	"amalgam/proof"
	"amalgam/sig"
	"amalgam/subst"
	"amalgam/terms"
	"amalgam/text"
	"amalgam/unify"
)

func v(name string) api.Term { return api.Term{Var: name} }

func sy(sym int, args ...api.Term) api.Term { return api.Term{Sym: sym, Args: args} }

func eq(l, r api.Term) api.Equation { return api.Equation{L: l, R: r} }

func bind(name string, t api.Term) api.Bind { return api.Bind{Var: name, T: t} }

// The symbols of example; the first five are the document's.
const a, one, f, plus, times, b, g, zero, sum, both = 0, 1, 2, 3, 4, 5, 6, 7, 8, 9

// example has two units, of which the one is that of two symbols.
func example() api.Signature {
	return api.Signature{
		{Name: "a", Kind: api.Free},
		{Name: "one", Kind: api.Free},
		{Name: "f", Kind: api.Free, Arity: 2},
		{Name: "plus", Kind: api.AC, Arity: 2},
		{Name: "times", Kind: api.ACU, Arity: 2, Unit: "one"},
		{Name: "b", Kind: api.Free},
		{Name: "g", Kind: api.Free, Arity: 1},
		{Name: "zero", Kind: api.Free},
		{Name: "sum", Kind: api.ACU, Arity: 2, Unit: "zero"},
		{Name: "both", Kind: api.ACU, Arity: 2, Unit: "one"},
	}
}

// document is the signature of the document's examples.
func document() api.Signature { return example()[:5] }

// unitFirst has a unit at the place 0, which is each variable's Sym, too, and an ACU symbol at the last place.
func unitFirst() api.Signature {
	return api.Signature{
		{Name: "no", Kind: api.Free},
		{Name: "or", Kind: api.AC, Arity: 2},
		{Name: "h", Kind: api.Free, Arity: 3},
		{Name: "and", Kind: api.ACU, Arity: 2, Unit: "no"},
	}
}

// sumFirst has an AC symbol at the place 0, and no unit.
func sumFirst() api.Signature {
	return api.Signature{
		{Name: "or", Kind: api.AC, Arity: 2},
		{Name: "no", Kind: api.Free},
		{Name: "h", Kind: api.Free, Arity: 3},
		{Name: "xor", Kind: api.AC, Arity: 2},
	}
}

func signatures() []api.Signature {
	return []api.Signature{document(), example(), unitFirst(), sumFirst()}
}

func TestSignaturesAreRight(t *testing.T) {
	for i, s := range signatures() {
		if e, at := sig.Check(s); e != api.OK {
			t.Errorf("signature %d: %d at %d", i, e, at)
		}
	}
}

func equation(t *testing.T, line string) api.Equation {
	t.Helper()
	q, e, at := text.Equation(example(), line)
	if e != api.OK {
		t.Fatalf("%s: %d at %d", line, e, at)
	}
	return q
}

func binds(t *testing.T, line string) []api.Bind {
	t.Helper()
	l, e, at := text.Binds(example(), line)
	if e != api.OK {
		t.Fatalf("%s: %d at %d", line, e, at)
	}
	return l
}

func flat(at int, path ...int) api.Step { return api.Step{Kind: api.Flat, At: at, Path: path} }

func group(at, many int, path ...int) api.Step {
	return api.Step{Kind: api.Group, At: at, Many: many, Path: path}
}

func swap(at int, path ...int) api.Step { return api.Step{Kind: api.Swap, At: at, Path: path} }

func drop(at int, path ...int) api.Step { return api.Step{Kind: api.Drop, At: at, Path: path} }

func grow(sym, many, at int, path ...int) api.Step {
	return api.Step{Kind: api.Grow, At: at, Many: many, Sym: sym, Path: path}
}

// write tells all of a term, so that two terms with one text are alike in every field.
func write(b *strings.Builder, t api.Term) {
	b.WriteString(t.Var + "'" + strconv.Itoa(t.Sym))
	if len(t.Args) == 0 {
		return
	}
	b.WriteString("(")
	for _, x := range t.Args {
		write(b, x)
		b.WriteString(" ")
	}
	b.WriteString(")")
}

func written(t api.Term) string {
	var b strings.Builder
	write(&b, t)
	return b.String()
}

func told(q api.Equation) string { return written(q.L) + " = " + written(q.R) }

func toldBinds(l []api.Bind) string {
	var b strings.Builder
	for _, x := range l {
		b.WriteString(x.Var + " -> ")
		write(&b, x.T)
		b.WriteString("; ")
	}
	return b.String()
}

func toldSteps(l []api.Step) string {
	var b strings.Builder
	for _, x := range l {
		for _, n := range append([]int{int(x.Kind), x.At, x.Many, x.Sym}, x.Path...) {
			b.WriteString(strconv.Itoa(n) + " ")
		}
		b.WriteString("; ")
	}
	return b.String()
}

func toldProof(p api.Proof) string { return toldBinds(p.Binds) + "by " + toldSteps(p.Steps) }

func toldAll(l []api.Proof) string {
	text := strconv.Itoa(len(l))
	for _, p := range l {
		text += " / " + toldProof(p)
	}
	return text
}

// short is a text that is not too long to be read.
func short(text string) string {
	if len(text) > 2000 {
		return text[:2000] + " .."
	}
	return text
}

func isZero(p api.Proof) bool { return len(p.Binds) == 0 && len(p.Steps) == 0 }

func wantCheck(t *testing.T, s api.Signature, q api.Equation, p api.Proof, want api.Errno, wantAt int) {
	t.Helper()
	if e, at := proof.Check(s, q.L, q.R, p); e != want || at != wantAt {
		t.Errorf("Check of %s, %s: %d at %d; want %d at %d", short(told(q)), short(toldProof(p)), e, at, want, wantAt)
	}
}

// wantHolds: a proof of some binds holds, by Check and by the chapter's words said again.
func wantHolds(t *testing.T, s api.Signature, q api.Equation, p api.Proof, b []api.Bind) {
	t.Helper()
	wantCheck(t, s, q, p, api.OK, 0)
	if e, at := again(s, q, p); e != api.OK || at != 0 {
		t.Errorf("by the words %s, %s: %d at %d", short(told(q)), short(toldProof(p)), e, at)
	}
	if len(p.Binds) != len(b) || toldBinds(p.Binds) != toldBinds(b) {
		t.Errorf("%s: binds %s; want %s", short(told(q)), short(toldBinds(p.Binds)), short(toldBinds(b)))
	}
}

// wantMake: a proof that holds, or none and an error.
func wantMake(t *testing.T, s api.Signature, q api.Equation, b []api.Bind, want api.Errno) {
	t.Helper()
	p, e := proof.Make(s, q.L, q.R, b)
	if e != want || e != api.OK && !isZero(p) {
		t.Errorf("Make of %s, %s: %s, %d; want %d", short(told(q)), short(toldBinds(b)), short(toldProof(p)), e, want)
	}
	if e == api.OK && want == api.OK {
		wantHolds(t, s, q, p, b)
	}
}

// wantAll: a proof that holds of each of some lists of binds, in order; or none and an error.
func wantAll(t *testing.T, s api.Signature, q api.Equation, lists [][]api.Bind, want api.Errno) {
	t.Helper()
	l, e := proof.All(s, q.L, q.R)
	if e != want || len(l) != len(lists) {
		t.Errorf("All of %s: %d proofs, %d; want %d, %d", short(told(q)), len(l), e, len(lists), want)
		return
	}
	for i, p := range l {
		wantHolds(t, s, q, p, lists[i])
	}
}

// with puts terms in the places of variables, as they are written, at one stroke, however great it grows.
func with(l []api.Bind, t api.Term) api.Term {
	if t.Var != "" {
		at := slices.IndexFunc(l, func(b api.Bind) bool { return b.Var == t.Var })
		if at < 0 {
			return t
		}
		return l[at].T
	}
	var args []api.Term
	for _, x := range t.Args {
		args = append(args, with(l, x))
	}
	t.Args = args
	return t
}

// checkAgain is the error of a signature and two terms that come in.
func checkAgain(s api.Signature, q api.Equation) api.Errno {
	if e, _ := sig.Check(s); e != api.OK {
		return e
	}
	for _, x := range []api.Term{q.L, q.R} {
		if e := terms.Check(s, x); e != api.OK {
			return e
		}
	}
	return api.OK
}

// again is what the chapter's words say of a proof, said a second time: step by step.
func again(s api.Signature, q api.Equation, p api.Proof) (api.Errno, int) {
	if e := checkAgain(s, q); e != api.OK {
		return e, 0
	}
	if e, at := subst.Check(s, p.Binds); e != api.OK {
		return 231, at
	}
	left, right := with(p.Binds, q.L), with(p.Binds, q.R)
	if terms.Size(left) > 400 || terms.Size(right) > 400 {
		return 73, 0
	}
	for i, x := range p.Steps {
		next, e := derive.Do(s, left, x)
		if e != api.OK {
			return 232, i
		}
		left = next
	}
	if written(left) != written(right) {
		return 233, len(p.Steps)
	}
	return 0, 0
}

// makeAgain is the error that the chapter's words tell of Make.
func makeAgain(s api.Signature, q api.Equation, b []api.Bind) api.Errno {
	is, e := unify.Is(s, q.L, q.R, b)
	switch {
	case e != api.OK:
		return e
	case !is:
		return 233
	}
	return api.OK
}

// maker makes terms, equations and proofs by a rule that is the same at each run.
type maker struct{ *rand.Rand }

func newMaker(seed int64) maker { return maker{rand.New(rand.NewSource(seed))} }

func varNames() []string { return []string{"X", "Xa", "Y", "Z", "W"} }

// right makes a right term of about so many nodes, of the first so many variables.
func (m maker) right(s api.Signature, n int, vars int) api.Term {
	var fitting []int
	for sym, x := range s {
		if (x.Kind == api.Free && x.Arity == 0) == (n < 3) {
			fitting = append(fitting, sym)
		}
	}
	if n < 3 && m.Intn(3) > 0 || len(fitting) == 0 {
		return v(varNames()[m.Intn(vars)])
	}
	sym := fitting[m.Intn(len(fitting))]
	many := s[sym].Arity
	if s[sym].Kind != api.Free {
		many += m.Intn(3)
	}
	var args []api.Term
	for range many {
		args = append(args, m.right(s, (n-1)/many, vars))
	}
	return sy(sym, args...)
}

// sums makes an equation of two sums of one symbol.
func (m maker) sums(s api.Signature, vars int) api.Equation {
	sym := m.Intn(len(s))
	for s[sym].Kind == api.Free {
		sym = m.Intn(len(s))
	}
	side := func() api.Term {
		t := sy(sym)
		for range 2 + m.Intn(2) {
			t.Args = append(t.Args, m.right(s, 1+m.Intn(3), vars))
		}
		return t
	}
	return eq(side(), side())
}

// equation makes one of right terms, not canonical ones: any, of two sums, of two terms of one free symbol, or of a term and what it makes of itself.
func (m maker) equation(s api.Signature, most, vars int) api.Equation {
	n := 1 + m.Intn(most)
	switch m.Intn(4) {
	case 0:
		return eq(m.right(s, n, vars), m.right(s, n, vars))
	case 1:
		return m.sums(s, vars)
	case 2:
		x := m.right(s, n, vars)
		return eq(x, with([]api.Bind{bind("X", m.right(s, 3, vars))}, m.stirred(s, x, 3)))
	}
	sym := slices.IndexFunc(s, func(x api.Symbol) bool { return x.Kind == api.Free && x.Arity > 1 })
	l, r := sy(sym), sy(sym)
	for range s[sym].Arity {
		l.Args = append(l.Args, m.right(s, 1+m.Intn(most/2), vars))
		r.Args = append(r.Args, m.right(s, 1+m.Intn(most/2), vars))
	}
	return eq(l, r)
}

// binds makes a substitution of some variables, with terms of about so many nodes.
func (m maker) binds(s api.Signature, most int) []api.Bind {
	var l []api.Bind
	for _, name := range slices.Sorted(slices.Values(varNames())) {
		x := canon.Canon(s, m.right(s, 1+m.Intn(most), 5))
		if m.Intn(2) == 0 && x.Var != name {
			l = append(l, bind(name, x))
		}
	}
	return l
}

// unifying makes a substitution that may well unify: an answer, an instance of one, or any.
func (m maker) unifying(s api.Signature, answers [][]api.Bind) []api.Bind {
	any := m.binds(s, 4)
	if len(answers) == 0 || m.Intn(4) == 0 {
		return any
	}
	one := answers[m.Intn(len(answers))]
	if l, e := subst.Compose(s, one, any); e == api.OK && m.Intn(2) == 0 {
		return l
	}
	return one
}

// step makes a step that may well be one of a term's.
func (m maker) step(s api.Signature, t api.Term) api.Step {
	x := api.Step{Kind: api.StepKind(1 + m.Intn(5)), Sym: m.Intn(len(s))}
	for len(t.Args) > 0 && m.Intn(3) > 0 {
		i := m.Intn(len(t.Args))
		x.Path, t = append(x.Path, i), t.Args[i]
	}
	x.At, x.Many = m.Intn(len(t.Args)+1), m.Intn(len(t.Args)+2)
	if x.Kind == api.Grow && m.Intn(2) == 0 {
		x.Many = m.Intn(2)
	}
	return x
}

// likely makes a step that can nearly always be done.
func (m maker) likely(s api.Signature, t api.Term) api.Step {
	for range 20 {
		x := m.step(s, t)
		if _, e := derive.Do(s, t, x); e == api.OK {
			return x
		}
	}
	return m.step(s, t)
}

// stirred is an equal term: steps lead to it, of all kinds and at any places.
func (m maker) stirred(s api.Signature, t api.Term, many int) api.Term {
	for range many {
		if y, e := derive.Do(s, t, m.likely(s, t)); e == api.OK {
			t = y
		}
	}
	return t
}

// spoilt makes a term of which some nodes may be wrong.
func (m maker) spoilt(s api.Signature, n int) api.Term {
	t := m.right(s, n, 5)
	for range m.Intn(4) {
		at := &t
		for len(at.Args) > 0 && m.Intn(4) > 0 {
			at = &at.Args[m.Intn(len(at.Args))]
		}
		switch m.Intn(5) {
		case 0:
			at.Var = []string{"X", "Y", "x", "", "_0", "_1", "Abcdefghijklm"}[m.Intn(7)]
		case 1:
			at.Sym = []int{-1, 0, 1, 3, 5, 99, -1 << 63, 1<<63 - 1}[m.Intn(8)]
		case 2:
			at.Args = at.Args[:m.Intn(len(at.Args)+1)]
		default:
			at.Args = slices.Insert(slices.Clone(at.Args), m.Intn(len(at.Args)+1), m.right(s, 3, 5))
		}
	}
	return t
}

// tower is a term of just n nodes, one within the other.
func tower(n int, leaf api.Term) api.Term {
	for range n - 1 {
		leaf = sy(g, leaf)
	}
	return leaf
}

// many is a term again and again.
func many(n int, t api.Term) []api.Term { return slices.Repeat([]api.Term{t}, n) }
