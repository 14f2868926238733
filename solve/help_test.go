package solve_test

import (
	"math/rand"
	"slices"
	"strconv"
	"strings"
	"testing"

	"amalgam/abstract"
	"amalgam/api"
	"amalgam/canon"
	"amalgam/linsolve"
	"amalgam/pick"
	"amalgam/rejoin"
	"amalgam/sig"
	"amalgam/solve"
	"amalgam/state"
	"amalgam/step"
	"amalgam/text"
)

func v(name string) api.Term { return api.Term{Var: name} }

func sy(sym int, args ...api.Term) api.Term { return api.Term{Sym: sym, Args: args} }

func eq(l, r api.Term) api.Equation { return api.Equation{L: l, R: r} }

func bind(name string, t api.Term) api.Bind { return api.Bind{Var: name, T: t} }

// The symbols of example; the first five are the document's.
const a, one, f, plus, times, b, g, c, d = 0, 1, 2, 3, 4, 5, 6, 7, 8

func example() api.Signature {
	return api.Signature{
		{Name: "a", Kind: api.Free},
		{Name: "one", Kind: api.Free},
		{Name: "f", Kind: api.Free, Arity: 2},
		{Name: "plus", Kind: api.AC, Arity: 2},
		{Name: "times", Kind: api.ACU, Arity: 2, Unit: "one"},
		{Name: "b", Kind: api.Free},
		{Name: "g", Kind: api.Free, Arity: 1},
		{Name: "c", Kind: api.Free},
		{Name: "d", Kind: api.Free},
	}
}

func plain() api.Signature { return sig.Plain(example()) }

// sumFirst has an AC symbol at the place 0, which is each variable's Sym, too, and an ACU symbol at the last place.
func sumFirst() api.Signature {
	return api.Signature{
		{Name: "or", Kind: api.AC, Arity: 2},
		{Name: "no", Kind: api.Free},
		{Name: "h", Kind: api.Free, Arity: 3},
		{Name: "and", Kind: api.ACU, Arity: 2, Unit: "no"},
	}
}

func signatures() []api.Signature { return []api.Signature{example(), sumFirst(), plain()} }

func TestSignaturesAreRight(t *testing.T) {
	for i, s := range signatures() {
		if e, at := sig.Check(s); e != api.OK {
			t.Errorf("signature %d: %d at %d", i, e, at)
		}
	}
}

func term(t *testing.T, line string) api.Term {
	t.Helper()
	x, e, at := text.Term(example(), line)
	if e != api.OK {
		t.Fatalf("%s: %d at %d", line, e, at)
	}
	return x
}

// equations reads a list; of an empty line none.
func equations(t *testing.T, line string) []api.Equation {
	t.Helper()
	var l []api.Equation
	for _, x := range strings.Split(line, "; ") {
		if x == "" {
			continue
		}
		q, e, at := text.Equation(example(), x)
		if e != api.OK {
			t.Fatalf("%s: %d at %d", x, e, at)
		}
		l = append(l, q)
	}
	return l
}

func binds(t *testing.T, line string) []api.Bind {
	t.Helper()
	l, e, at := text.Binds(example(), line)
	if e != api.OK {
		t.Fatalf("%s: %d at %d", line, e, at)
	}
	return l
}

// read reads a state: its equations and its binds.
func read(t *testing.T, equationsLine, bindsLine string, fresh int) api.State {
	t.Helper()
	return api.State{Equations: equations(t, equationsLine), Binds: binds(t, bindsLine), Fresh: fresh}
}

// forms reads a list of binds.
func forms(t *testing.T, lines ...string) [][]api.Bind {
	t.Helper()
	var l [][]api.Bind
	for _, line := range lines {
		l = append(l, binds(t, line))
	}
	return l
}

// machine is one of the example's equations.
func machine(t *testing.T, line string) *solve.Machine {
	t.Helper()
	return started(t, example(), equations(t, line))
}

func started(t *testing.T, s api.Signature, l []api.Equation) *solve.Machine {
	t.Helper()
	m, e := solve.New(s, l)
	if e != api.OK || m == nil {
		t.Fatalf("%s: %d", toldEquations(l), e)
	}
	return m
}

// enough is more steps than a machine may take: tests do not step for ever.
const enough = api.MaxStates + 10

// run steps a machine till it is through, and tells how many steps that were.
func run(t *testing.T, m *solve.Machine) int {
	t.Helper()
	for n := 1; n <= enough; n++ {
		if m.Step() {
			return n
		}
	}
	t.Fatal("it does not end")
	return 0
}

// written tells all of a term, so that two terms with one text are alike in every field.
func written(t api.Term) string {
	var b strings.Builder
	write(&b, t)
	return b.String()
}

func write(b *strings.Builder, t api.Term) {
	b.WriteString(t.Var + "'" + strconv.Itoa(t.Sym))
	if len(t.Args) == 0 {
		return
	}
	b.WriteString("(")
	for _, x := range t.Args {
		write(b, x)
		b.WriteString(" ")
	}
	b.WriteString(")")
}

// told tells all of a state.
func told(x api.State) string {
	var b strings.Builder
	for _, q := range x.Equations {
		write(&b, q.L)
		b.WriteString(" = ")
		write(&b, q.R)
		b.WriteString("; ")
	}
	b.WriteString("| ")
	for _, y := range x.Binds {
		b.WriteString(y.Var + " -> ")
		write(&b, y.T)
		b.WriteString("; ")
	}
	return b.String() + "| " + strconv.Itoa(x.Fresh)
}

func toldEquations(l []api.Equation) string { return told(api.State{Equations: l}) }

func toldBinds(l []api.Bind) string { return told(api.State{Binds: l}) }

func toldForms(l [][]api.Bind) string {
	text := strconv.Itoa(len(l))
	for _, form := range l {
		text += " / " + toldBinds(form)
	}
	return text
}

// look tells all that a machine tells.
func look(m *solve.Machine) string {
	x, some := m.Top()
	made, lie := m.Made()
	l, e := m.Answer()
	return told(x) + " " + strconv.FormatBool(some) + " " + strconv.Itoa(made) + " " + strconv.Itoa(lie) + " " + toldForms(l) + " " + strconv.Itoa(int(e))
}

func wantTop(t *testing.T, what string, m *solve.Machine, want api.State) {
	t.Helper()
	if got, some := m.Top(); !some || told(got) != told(want) {
		t.Errorf("%s: on top is %s, %v; want %s", what, told(got), some, told(want))
	}
}

func wantNoTop(t *testing.T, what string, m *solve.Machine) {
	t.Helper()
	if got, some := m.Top(); some || told(got) != told(api.State{}) {
		t.Errorf("%s: on top is %s, %v; want none", what, told(got), some)
	}
}

func wantMade(t *testing.T, what string, m *solve.Machine, made, lie int) {
	t.Helper()
	if n, k := m.Made(); n != made || k != lie {
		t.Errorf("%s: %d were made, %d lie there; want %d, %d", what, n, k, made, lie)
	}
}

func wantStep(t *testing.T, what string, m *solve.Machine, want bool) {
	t.Helper()
	if got := m.Step(); got != want {
		t.Errorf("%s: Step says %v", what, got)
	}
}

func wantAnswer(t *testing.T, what string, l [][]api.Bind, e api.Errno, want [][]api.Bind, wantE api.Errno) {
	t.Helper()
	if e != wantE || toldForms(l) != toldForms(want) {
		t.Errorf("%s: %s, %d; want %s, %d", what, toldForms(l), e, toldForms(want), wantE)
	}
}

// wantGivenUp: it is through by an error, with so many states made.
func wantGivenUp(t *testing.T, what string, m *solve.Machine, made int) {
	t.Helper()
	wantNoTop(t, what, m)
	wantMade(t, what, m, made, 0)
	l, e := m.Answer()
	wantAnswer(t, what, l, e, nil, api.ErrTooMany)
	wantStep(t, what, m, true)
	wantMade(t, what, m, made, 0)
}

// again is the chapter's machine said again, word by word.
type again struct {
	p       api.Signature
	stack   []api.State
	made    int
	forms   [][]api.Bind
	through bool
	tooMany bool
}

func newAgain(s api.Signature, l []api.Equation) *again {
	x := api.State{}
	for _, q := range l {
		x.Equations = append(x.Equations, eq(canon.Canon(sig.Plain(s), q.L), canon.Canon(sig.Plain(s), q.R)))
	}
	return &again{p: sig.Plain(s), stack: []api.State{x}, made: 1}
}

func (m *again) child(x api.State) {
	if m.tooMany {
		return
	}
	m.made++
	m.stack = append(m.stack, x)
	m.tooMany = m.made > 4096
}

func (m *again) step() bool {
	switch {
	case m.through:
	case len(m.stack) == 0:
		m.through = true
	default:
		x := m.stack[len(m.stack)-1]
		m.stack = m.stack[:len(m.stack)-1]
		m.take(x)
		m.through = m.tooMany
	}
	return m.through
}

func (m *again) take(x api.State) {
	if len(x.Equations) == 0 {
		m.forms = append(m.forms, x.Binds)
		m.tooMany = len(m.forms) > 100
		return
	}
	at, _ := state.Next(x)
	w := step.One(m.p, x.Equations[at])
	if w.Act == api.Set {
		y, _ := state.Replace(x, at, nil)
		y, e := state.Bind(m.p, y, w.Bind)
		if m.tooMany = e == api.ErrSubstGrown; !m.tooMany {
			m.child(y)
		}
		return
	}
	pure := api.Sum{Act: w.Act, L: w.L}
	if w.Act == api.Pure {
		var e api.Errno
		pure, e = abstract.Pure(m.p, w.Sym, x.Equations[at])
		m.tooMany = e == api.ErrTooMany
	}
	if m.tooMany {
		return
	}
	switch pure.Act {
	case api.Done, api.Parts:
		y, _ := state.Replace(x, at, pure.L)
		m.child(y)
	case api.Pure:
		m.children(x, at, w.Sym, pure)
	}
}

// children lays the children of all masks on the stack, from the greatest down.
func (m *again) children(x api.State, at, sym int, pure api.Sum) {
	rows, e := linsolve.Basis(abstract.Counts(pure.Left), abstract.Counts(pure.Right))
	if e == api.ErrTooMany {
		m.tooMany = true
		return
	}
	masks := slices.Collect(pick.All(rows, abstract.Wants(pure.Left, pure.Right)))
	if m.made+len(masks) > 4096 {
		m.made, m.tooMany = 4097, true
		return
	}
	for i := len(masks) - 1; i >= 0; i-- {
		l, fresh, _ := rejoin.Equations(m.p, sym, append(slices.Clone(pure.Left), pure.Right...), pick.Picked(rows, masks[i]), x.Fresh)
		y, _ := state.Replace(x, at, l)
		y.Fresh = fresh
		m.child(y)
	}
}

func (m *again) look() string {
	top, some, lie, found, e := api.State{}, false, 0, [][]api.Bind(nil), 0
	if !m.tooMany && len(m.stack) > 0 {
		top, some, lie = m.stack[len(m.stack)-1], true, len(m.stack)
	}
	if m.through && m.tooMany {
		e = 2
	} else if m.through {
		found = m.forms
	}
	return told(top) + " " + strconv.FormatBool(some) + " " + strconv.Itoa(m.made) + " " + strconv.Itoa(lie) + " " + toldForms(found) + " " + strconv.Itoa(e)
}

// maker makes terms and equations by a rule that is the same at each run.
type maker struct{ *rand.Rand }

func newMaker(seed int64) maker { return maker{rand.New(rand.NewSource(seed))} }

func varNames() []string { return []string{"X", "Xa", "Y", "Z", "W"} }

// right makes a right term of about so many nodes, of the first so many variables.
func (m maker) right(s api.Signature, n int, vars int) api.Term {
	var fitting []int
	for sym, x := range s {
		if (x.Kind == api.Free && x.Arity == 0) == (n < 3) {
			fitting = append(fitting, sym)
		}
	}
	if n < 3 && m.Intn(3) > 0 || len(fitting) == 0 {
		return v(varNames()[m.Intn(vars)])
	}
	sym := fitting[m.Intn(len(fitting))]
	many := s[sym].Arity
	if s[sym].Kind != api.Free {
		many += m.Intn(3)
	}
	var args []api.Term
	for range many {
		args = append(args, m.right(s, (n-1)/many, vars))
	}
	return sy(sym, args...)
}

// equations makes some of right terms, not canonical ones.
func (m maker) equations(s api.Signature, many, most, vars int) []api.Equation {
	var l []api.Equation
	for range m.Intn(many + 1) {
		n := 1 + m.Intn(most)
		l = append(l, eq(m.right(s, n, vars), m.right(s, n, vars)))
	}
	return l
}

// sums makes an equation of two sums of one symbol.
func (m maker) sums(s api.Signature, vars int) api.Equation {
	sym := []int{slices.IndexFunc(s, func(x api.Symbol) bool { return x.Kind == api.AC }), len(s) - 1}[m.Intn(2)]
	if s[sym].Kind == api.Free {
		sym = times
	}
	side := func() api.Term {
		t := sy(sym)
		for range 2 + m.Intn(2) {
			t.Args = append(t.Args, m.right(s, 1+m.Intn(3), vars))
		}
		return t
	}
	return eq(side(), side())
}

// spoilt makes a term of which some nodes may be wrong.
func (m maker) spoilt(s api.Signature, n int) api.Term {
	t := m.right(s, n, 5)
	for range m.Intn(4) {
		at := &t
		for len(at.Args) > 0 && m.Intn(4) > 0 {
			at = &at.Args[m.Intn(len(at.Args))]
		}
		switch m.Intn(5) {
		case 0:
			at.Var = []string{"X", "Y", "x", "", "_0", "_1", "Abcdefghijklm"}[m.Intn(7)]
		case 1:
			at.Sym = []int{-1, 0, 1, 3, 5, 99, -1 << 63, 1<<63 - 1}[m.Intn(8)]
		case 2:
			at.Args = at.Args[:m.Intn(len(at.Args)+1)]
		default:
			at.Args = slices.Insert(slices.Clone(at.Args), m.Intn(len(at.Args)+1), m.right(s, 3, 5))
		}
	}
	return t
}

// tower is a term of just n nodes, one within the other.
func tower(n int, leaf api.Term) api.Term {
	for range n - 1 {
		leaf = sy(g, leaf)
	}
	return leaf
}

// many is a term again and again.
func many(n int, t api.Term) []api.Term { return slices.Repeat([]api.Term{t}, n) }
