package unify_test

import (
	"math/rand"
	"slices"
	"strconv"
	"strings"
	"testing"

	"amalgam/api"
	"amalgam/canon"
	"amalgam/sig"
	"amalgam/solve"
	"amalgam/terms"
	"amalgam/text"
	"amalgam/unify"
)

func v(name string) api.Term { return api.Term{Var: name} }

func sy(sym int, args ...api.Term) api.Term { return api.Term{Sym: sym, Args: args} }

func eq(l, r api.Term) api.Equation { return api.Equation{L: l, R: r} }

func bind(name string, t api.Term) api.Bind { return api.Bind{Var: name, T: t} }

// The symbols of example; the first five are the document's.
const a, one, f, plus, times, b, g, zero, sum, both = 0, 1, 2, 3, 4, 5, 6, 7, 8, 9

// example has two units, of which the one is that of two symbols.
func example() api.Signature {
	return api.Signature{
		{Name: "a", Kind: api.Free},
		{Name: "one", Kind: api.Free},
		{Name: "f", Kind: api.Free, Arity: 2},
		{Name: "plus", Kind: api.AC, Arity: 2},
		{Name: "times", Kind: api.ACU, Arity: 2, Unit: "one"},
		{Name: "b", Kind: api.Free},
		{Name: "g", Kind: api.Free, Arity: 1},
		{Name: "zero", Kind: api.Free},
		{Name: "sum", Kind: api.ACU, Arity: 2, Unit: "zero"},
		{Name: "both", Kind: api.ACU, Arity: 2, Unit: "one"},
	}
}

// document is the signature of the document's examples.
func document() api.Signature { return example()[:5] }

// unitFirst has a unit at the place 0, which is each variable's Sym, too, and an ACU symbol at the last place.
func unitFirst() api.Signature {
	return api.Signature{
		{Name: "no", Kind: api.Free},
		{Name: "or", Kind: api.AC, Arity: 2},
		{Name: "h", Kind: api.Free, Arity: 3},
		{Name: "and", Kind: api.ACU, Arity: 2, Unit: "no"},
	}
}

// sumFirst has an AC symbol at the place 0, and no unit.
func sumFirst() api.Signature {
	return api.Signature{
		{Name: "or", Kind: api.AC, Arity: 2},
		{Name: "no", Kind: api.Free},
		{Name: "h", Kind: api.Free, Arity: 3},
		{Name: "xor", Kind: api.AC, Arity: 2},
	}
}

func signatures() []api.Signature {
	return []api.Signature{document(), example(), unitFirst(), sumFirst()}
}

func TestSignaturesAreRight(t *testing.T) {
	for i, s := range signatures() {
		if e, at := sig.Check(s); e != api.OK {
			t.Errorf("signature %d: %d at %d", i, e, at)
		}
	}
}

func term(t *testing.T, line string) api.Term {
	t.Helper()
	x, e, at := text.Term(example(), line)
	if e != api.OK {
		t.Fatalf("%s: %d at %d", line, e, at)
	}
	return x
}

func equation(t *testing.T, line string) api.Equation {
	t.Helper()
	q, e, at := text.Equation(example(), line)
	if e != api.OK {
		t.Fatalf("%s: %d at %d", line, e, at)
	}
	return q
}

func binds(t *testing.T, line string) []api.Bind {
	t.Helper()
	l, e, at := text.Binds(example(), line)
	if e != api.OK {
		t.Fatalf("%s: %d at %d", line, e, at)
	}
	return l
}

// lists reads lists of binds; an empty line is a list of none.
func lists(t *testing.T, lines ...string) [][]api.Bind {
	t.Helper()
	var l [][]api.Bind
	for _, line := range lines {
		l = append(l, binds(t, line))
	}
	return l
}

// written tells all of a term, so that two terms with one text are alike in every field.
func written(t api.Term) string {
	var b strings.Builder
	write(&b, t)
	return b.String()
}

func write(b *strings.Builder, t api.Term) {
	b.WriteString(t.Var + "'" + strconv.Itoa(t.Sym))
	if len(t.Args) == 0 {
		return
	}
	b.WriteString("(")
	for _, x := range t.Args {
		write(b, x)
		b.WriteString(" ")
	}
	b.WriteString(")")
}

func told(q api.Equation) string { return written(q.L) + " = " + written(q.R) }

func toldBinds(l []api.Bind) string {
	var b strings.Builder
	for _, x := range l {
		b.WriteString(x.Var + " -> ")
		write(&b, x.T)
		b.WriteString("; ")
	}
	return b.String()
}

func toldLists(l [][]api.Bind) string {
	text := strconv.Itoa(len(l))
	for _, x := range l {
		text += " / " + toldBinds(x)
	}
	return text
}

func wantUnify(t *testing.T, s api.Signature, q api.Equation, want [][]api.Bind, wantE api.Errno) {
	t.Helper()
	if l, e := unify.Unify(s, q.L, q.R); e != wantE || toldLists(l) != toldLists(want) {
		t.Errorf("%s: %s, %d; want %s, %d", told(q), toldLists(l), e, toldLists(want), wantE)
	}
}

// wantLines holds Unify of the example's equation against lines of binds.
func wantLines(t *testing.T, line string, want ...string) {
	t.Helper()
	wantUnify(t, example(), equation(t, line), lists(t, want...), api.OK)
}

func wantError(t *testing.T, line string, want api.Errno) {
	t.Helper()
	wantUnify(t, example(), equation(t, line), nil, want)
}

func wantIs(t *testing.T, s api.Signature, q api.Equation, b []api.Bind, want bool, wantE api.Errno) {
	t.Helper()
	if got, e := unify.Is(s, q.L, q.R, b); got != want || e != wantE {
		t.Errorf("%s with %s: %v, %d; want %v, %d", told(q), toldBinds(b), got, e, want, wantE)
	}
}

// with puts terms in the places of variables, at one stroke, however great it grows.
func with(l []api.Bind, t api.Term) api.Term {
	if t.Var != "" {
		at := slices.IndexFunc(l, func(b api.Bind) bool { return b.Var == t.Var })
		if at < 0 {
			return t
		}
		return l[at].T
	}
	var args []api.Term
	for _, x := range t.Args {
		args = append(args, with(l, x))
	}
	t.Args = args
	return t
}

// unifies: are both sides equal modulo the axioms with these binds, however great they grow?
func unifies(s api.Signature, q api.Equation, b []api.Bind) bool {
	return canon.Equal(s, with(b, q.L), with(b, q.R))
}

// varsOf are the variables of both sides.
func varsOf(q api.Equation) []string { return terms.Vars(sy(f, q.L, q.R)) }

// unitsOf are the units of the symbols that stand in some term.
func unitsOf(s api.Signature, t api.Term) []int {
	var l []int
	for _, x := range terms.All(t) {
		if x.Var == "" && s[x.Sym].Kind == api.ACU {
			l = append(l, slices.IndexFunc(s, func(y api.Symbol) bool { return y.Name == s[x.Sym].Unit }))
		}
	}
	slices.Sort(l)
	return slices.Compact(l)
}

// waysOf are all ways, by the first variable first; none, if there are more than most.
func waysOf(places []int, vars []string, most int) [][]api.Bind {
	ways := [][]api.Bind{nil}
	for _, name := range vars {
		var longer [][]api.Bind
		for _, way := range ways {
			longer = append(longer, way)
			for _, place := range places {
				longer = append(longer, append(slices.Clip(way), bind(name, sy(place))))
			}
		}
		if ways = longer; len(ways) > most {
			return nil
		}
	}
	return ways
}

// tally is what the chapter's words make of two right terms, said again with counts.
type tally struct {
	ways, made, forms int
	giving            int // ways that gave a form
	list              [][]api.Bind
	e                 api.Errno
}

func again(s api.Signature, q api.Equation) tally {
	vars := varsOf(q)
	if slices.ContainsFunc(vars, func(name string) bool { return name[0] == '_' }) {
		return tally{e: 181}
	}
	ways := waysOf(unitsOf(s, sy(f, q.L, q.R)), vars, 4096)
	x := tally{ways: len(ways)}
	if ways == nil {
		// A state is made in each of them.
		x.e = 2
		return x
	}
	for _, way := range ways {
		m, _ := solve.New(s, []api.Equation{eq(canon.Canon(s, with(way, q.L)), canon.Canon(s, with(way, q.R)))})
		for !m.Step() {
		}
		forms, e := m.Answer()
		made, _ := m.Made()
		x.made += made
		x.forms += len(forms)
		if len(forms) > 0 {
			x.giving++
		}
		if e != api.OK || x.made > 4096 || x.forms > 100 {
			x.e, x.list = 2, nil
			return x
		}
		for _, form := range forms {
			x.add(answerOf(s, vars, way, form))
		}
	}
	return x
}

func (x *tally) add(l []api.Bind) {
	if !slices.ContainsFunc(x.list, func(y []api.Bind) bool { return toldBinds(y) == toldBinds(l) }) {
		x.list = append(x.list, l)
	}
}

func answerOf(s api.Signature, vars []string, way, form []api.Bind) []api.Bind {
	var l []api.Bind
	var named []string
	for _, name := range vars {
		x := with(way, v(name))
		if x.Var != "" {
			x = canon.Canon(s, canon.Canon(sig.Plain(s), with(form, v(name))))
		}
		if x.Var == name {
			continue
		}
		l = append(l, bind(name, x))
		for _, y := range terms.All(x) {
			if y.Var != "" && !slices.Contains(vars, y.Var) && !slices.Contains(named, y.Var) {
				named = append(named, y.Var)
			}
		}
	}
	var anew []api.Bind
	for i, name := range named {
		anew = append(anew, bind(name, v("_"+strconv.Itoa(i+1))))
	}
	for i := range l {
		l[i].T = canon.Canon(s, with(anew, l[i].T))
	}
	return l
}

// maker makes terms and equations by a rule that is the same at each run.
type maker struct{ *rand.Rand }

func newMaker(seed int64) maker { return maker{rand.New(rand.NewSource(seed))} }

func varNames() []string { return []string{"X", "Xa", "Y", "Z", "W"} }

// right makes a right term of about so many nodes, of the first so many variables.
func (m maker) right(s api.Signature, n int, vars int) api.Term {
	var fitting []int
	for sym, x := range s {
		if (x.Kind == api.Free && x.Arity == 0) == (n < 3) {
			fitting = append(fitting, sym)
		}
	}
	if n < 3 && m.Intn(3) > 0 || len(fitting) == 0 {
		return v(varNames()[m.Intn(vars)])
	}
	sym := fitting[m.Intn(len(fitting))]
	many := s[sym].Arity
	if s[sym].Kind != api.Free {
		many += m.Intn(3)
	}
	var args []api.Term
	for range many {
		args = append(args, m.right(s, (n-1)/many, vars))
	}
	return sy(sym, args...)
}

// sums makes an equation of two sums of one symbol.
func (m maker) sums(s api.Signature, vars int) api.Equation {
	var gathering []int
	for sym, x := range s {
		if x.Kind != api.Free {
			gathering = append(gathering, sym)
		}
	}
	sym := gathering[m.Intn(len(gathering))]
	side := func() api.Term {
		t := sy(sym)
		for range 2 + m.Intn(2) {
			t.Args = append(t.Args, m.right(s, 1+m.Intn(3), vars))
		}
		return t
	}
	return eq(side(), side())
}

// equation makes one of right terms, not canonical ones: any, of two sums, or of two terms of one free symbol.
func (m maker) equation(s api.Signature, most, vars int) api.Equation {
	n := 1 + m.Intn(most)
	switch m.Intn(3) {
	case 0:
		return eq(m.right(s, n, vars), m.right(s, n, vars))
	case 1:
		return m.sums(s, vars)
	}
	sym := slices.IndexFunc(s, func(x api.Symbol) bool { return x.Kind == api.Free && x.Arity > 1 })
	l, r := sy(sym), sy(sym)
	for range s[sym].Arity {
		l.Args = append(l.Args, m.right(s, 1+m.Intn(most/2), vars))
		r.Args = append(r.Args, m.right(s, 1+m.Intn(most/2), vars))
	}
	return eq(l, r)
}

// spoilt makes a term of which some nodes may be wrong.
func (m maker) spoilt(s api.Signature, n int) api.Term {
	t := m.right(s, n, 5)
	for range m.Intn(4) {
		at := &t
		for len(at.Args) > 0 && m.Intn(4) > 0 {
			at = &at.Args[m.Intn(len(at.Args))]
		}
		switch m.Intn(5) {
		case 0:
			at.Var = []string{"X", "Y", "x", "", "_0", "_1", "Abcdefghijklm"}[m.Intn(7)]
		case 1:
			at.Sym = []int{-1, 0, 1, 3, 5, 99, -1 << 63, 1<<63 - 1}[m.Intn(8)]
		case 2:
			at.Args = at.Args[:m.Intn(len(at.Args)+1)]
		default:
			at.Args = slices.Insert(slices.Clone(at.Args), m.Intn(len(at.Args)+1), m.right(s, 3, 5))
		}
	}
	return t
}

// tower is a term of just n nodes, one within the other.
func tower(n int, leaf api.Term) api.Term {
	for range n - 1 {
		leaf = sy(g, leaf)
	}
	return leaf
}

// many is a term again and again.
func many(n int, t api.Term) []api.Term { return slices.Repeat([]api.Term{t}, n) }
