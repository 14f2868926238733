package state_test

import (
	"math/rand"
	"slices"
	"strconv"
	"strings"
	"testing"

	"amalgam/api"
	"amalgam/canon"
	"amalgam/sig"
	"amalgam/terms"
	"amalgam/text"
)

func v(name string) api.Term { return api.Term{Var: name} }

func sy(sym int, args ...api.Term) api.Term { return api.Term{Sym: sym, Args: args} }

func eq(l, r api.Term) api.Equation { return api.Equation{L: l, R: r} }

func bind(name string, t api.Term) api.Bind { return api.Bind{Var: name, T: t} }

// The symbols of example; the first five are the document's.
const a, one, f, plus, times, b, g = 0, 1, 2, 3, 4, 5, 6

func example() api.Signature {
	return api.Signature{
		{Name: "a", Kind: api.Free},
		{Name: "one", Kind: api.Free},
		{Name: "f", Kind: api.Free, Arity: 2},
		{Name: "plus", Kind: api.AC, Arity: 2},
		{Name: "times", Kind: api.ACU, Arity: 2, Unit: "one"},
		{Name: "b", Kind: api.Free},
		{Name: "g", Kind: api.Free, Arity: 1},
	}
}

// plain is what whoever solves hands in.
func plain() api.Signature { return sig.Plain(example()) }

// sumFirst has an AC symbol at the place 0, which is each variable's Sym, too, and an ACU symbol at the last place.
func sumFirst() api.Signature {
	return api.Signature{
		{Name: "or", Kind: api.AC, Arity: 2},
		{Name: "no", Kind: api.Free},
		{Name: "h", Kind: api.Free, Arity: 3},
		{Name: "and", Kind: api.ACU, Arity: 2, Unit: "no"},
	}
}

func signatures() []api.Signature {
	return []api.Signature{plain(), sig.Plain(sumFirst()), example(), sumFirst()}
}

func TestSignaturesAreRight(t *testing.T) {
	for i, s := range signatures() {
		if e, at := sig.Check(s); e != api.OK {
			t.Errorf("signature %d: %d at %d", i, e, at)
		}
	}
}

// term reads a term, which must be canonical by the plain signature.
func term(t *testing.T, line string) api.Term {
	t.Helper()
	x, e, at := text.Term(example(), line)
	if e != api.OK || !canon.Is(plain(), x) {
		t.Fatalf("%s: %d at %d", line, e, at)
	}
	return x
}

// binds reads binds of such terms; of an empty line none.
func binds(t *testing.T, line string) []api.Bind {
	t.Helper()
	l, e, at := text.Binds(example(), line)
	if e != api.OK {
		t.Fatalf("%s: %d at %d", line, e, at)
	}
	return l
}

// equations reads a list; of an empty line none.
func equations(t *testing.T, line string) []api.Equation {
	t.Helper()
	var l []api.Equation
	for _, x := range strings.Split(line, "; ") {
		if x == "" {
			continue
		}
		left, right, ok := strings.Cut(x, " = ")
		if !ok {
			t.Fatal(line)
		}
		l = append(l, eq(term(t, left), term(t, right)))
	}
	return l
}

// read reads a state: its equations and its binds.
func read(t *testing.T, equationsLine, bindsLine string, fresh int) api.State {
	t.Helper()
	return api.State{Equations: equations(t, equationsLine), Binds: binds(t, bindsLine), Fresh: fresh}
}

// chapters is the state of the chapter's examples.
func chapters(t *testing.T) api.State {
	t.Helper()
	return read(t, "X = f(Y,Y); Y = a; f(X,a) = Z", "", 0)
}

// written tells all of a term, so that two terms with one text are alike in every field.
func written(t api.Term) string {
	var b strings.Builder
	write(&b, t)
	return b.String()
}

func write(b *strings.Builder, t api.Term) {
	b.WriteString(t.Var + "'" + strconv.Itoa(t.Sym))
	if len(t.Args) == 0 {
		return
	}
	b.WriteString("(")
	for _, x := range t.Args {
		write(b, x)
		b.WriteString(" ")
	}
	b.WriteString(")")
}

// told tells all of a state.
func told(x api.State) string {
	var b strings.Builder
	for _, q := range x.Equations {
		write(&b, q.L)
		b.WriteString(" = ")
		write(&b, q.R)
		b.WriteString("; ")
	}
	b.WriteString("| ")
	for _, y := range x.Binds {
		b.WriteString(y.Var + " -> ")
		write(&b, y.T)
		b.WriteString("; ")
	}
	return b.String() + "| " + strconv.Itoa(x.Fresh)
}

func toldBind(b api.Bind) string { return told(api.State{Binds: []api.Bind{b}}) }

func wantState(t *testing.T, what string, got, want api.State) {
	t.Helper()
	if told(got) != told(want) {
		t.Errorf("%s: %s; want %s", what, told(got), told(want))
	}
}

func wantError(t *testing.T, what string, got api.State, e, want api.Errno) {
	t.Helper()
	if e != want || told(got) != told(api.State{}) {
		t.Errorf("%s: %d, %s; want %d and nothing else", what, e, told(got), want)
	}
}

// with puts a term in the places of a variable.
func with(name string, x, t api.Term) api.Term {
	if t.Var == name && name != "" {
		return x
	}
	var args []api.Term
	for _, y := range t.Args {
		args = append(args, with(name, x, y))
	}
	t.Args = args
	return t
}

// nodes counts them.
func nodes(t api.Term) int {
	n := 1
	for _, x := range t.Args {
		n += nodes(x)
	}
	return n
}

// bindAgain is the chapter's Bind said again, word by word.
func bindAgain(s api.Signature, x api.State, b api.Bind) (api.State, api.Errno) {
	if slices.Contains(terms.Vars(b.T), b.Var) {
		return api.State{}, 152
	}
	grown := false
	put := func(t api.Term) api.Term {
		t = with(b.Var, b.T, t)
		grown = grown || nodes(t) > 400
		return canon.Canon(s, t)
	}
	y := api.State{Fresh: x.Fresh}
	for _, q := range x.Equations {
		y.Equations = append(y.Equations, eq(put(q.L), put(q.R)))
	}
	byName := map[string]api.Term{b.Var: b.T}
	names := []string{b.Var}
	for _, c := range x.Binds {
		byName[c.Var] = put(c.T)
		names = append(names, c.Var)
	}
	slices.Sort(names)
	for _, name := range names {
		y.Binds = append(y.Binds, bind(name, byName[name]))
	}
	if grown {
		return api.State{}, 73
	}
	return y, 0
}

// maker makes terms and states by a rule that is the same at each run.
type maker struct{ *rand.Rand }

func newMaker(seed int64) maker { return maker{rand.New(rand.NewSource(seed))} }

func varNames() []string { return []string{"X", "Xa", "Y", "Z", "_1", "_10", "_2"} }

func (m maker) varName() string { return varNames()[m.Intn(len(varNames()))] }

// right makes a right term of about so many nodes.
func (m maker) right(s api.Signature, n int) api.Term {
	var fitting []int
	for sym, x := range s {
		if (x.Kind == api.Free && x.Arity == 0) == (n < 3) {
			fitting = append(fitting, sym)
		}
	}
	if n < 3 && m.Intn(3) > 0 || len(fitting) == 0 {
		return v(m.varName())
	}
	sym := fitting[m.Intn(len(fitting))]
	many := s[sym].Arity
	if s[sym].Kind != api.Free {
		many += m.Intn(3)
	}
	var args []api.Term
	for range many {
		args = append(args, m.right(s, (n-1)/many))
	}
	return sy(sym, args...)
}

// canonical makes a right term that is canonical by the signature.
func (m maker) canonical(s api.Signature, n int) api.Term {
	return canon.Canon(s, m.right(s, n))
}

// state makes a state of canonical terms, and a bind whose variable is none that is bound; of the variables that are bound none stands in a term.
func (m maker) state(s api.Signature, most int) (api.State, api.Bind) {
	names := varNames()
	m.Shuffle(len(names), func(i, j int) { names[i], names[j] = names[j], names[i] })
	bound := names[:m.Intn(len(names)-2)]
	slices.Sort(bound)
	free := names[len(bound):]
	one := func() api.Term {
		t := m.right(s, 1+m.Intn(most))
		for i, name := range bound {
			t = with(name, v(free[i%len(free)]), t)
		}
		return canon.Canon(s, t)
	}
	x := api.State{Fresh: m.Intn(5)}
	for range m.Intn(5) {
		x.Equations = append(x.Equations, eq(one(), one()))
	}
	for _, name := range bound {
		x.Binds = append(x.Binds, bind(name, one()))
	}
	return x, bind(free[0], one())
}

// spoilt makes a term of which some nodes are wrong.
func (m maker) spoilt(s api.Signature, n int) api.Term {
	t := m.right(s, n)
	for range m.Intn(4) {
		at := &t
		for len(at.Args) > 0 && m.Intn(4) > 0 {
			at = &at.Args[m.Intn(len(at.Args))]
		}
		switch m.Intn(5) {
		case 0:
			at.Var = []string{"X", "Y", "x", "", "_0", "Abcdefghijklm"}[m.Intn(6)]
		case 1:
			at.Sym = []int{-1, 0, 1, 3, 5, 99, -1 << 63, 1<<63 - 1}[m.Intn(8)]
		case 2:
			at.Args = at.Args[:m.Intn(len(at.Args)+1)]
		default:
			at.Args = slices.Insert(slices.Clone(at.Args), m.Intn(len(at.Args)+1), m.right(s, 3))
		}
	}
	return t
}

// any makes a state of which all may be wrong: terms, variables, the order of binds.
func (m maker) any(s api.Signature) api.State {
	x := api.State{Fresh: []int{-1 << 63, -1, 0, 1, 1 << 20, 1<<63 - 1}[m.Intn(6)]}
	for range m.Intn(4) {
		x.Equations = append(x.Equations, eq(m.spoilt(s, 8), m.spoilt(s, 8)))
	}
	for range m.Intn(4) {
		x.Binds = append(x.Binds, m.anyBind(s))
	}
	return x
}

func (m maker) anyBind(s api.Signature) api.Bind {
	name := m.varName()
	if m.Intn(5) == 0 {
		name = []string{"", "x", "1", "Abcdefghijklm", "\xff"}[m.Intn(5)]
	}
	return bind(name, m.spoilt(s, 8))
}

// tower is a term of just n nodes, one within the other.
func tower(n int, leaf api.Term) api.Term {
	for range n - 1 {
		leaf = sy(g, leaf)
	}
	return leaf
}

// sum is a sum of so many a's, behind other terms.
func sum(many int, first ...api.Term) api.Term {
	return sy(plus, append(first, slices.Repeat([]api.Term{sy(a)}, many)...)...)
}
