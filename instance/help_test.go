package instance_test

import (
	"math/rand"
	"slices"
	"strconv"
	"strings"
	"testing"

	"amalgam/api"
	"amalgam/canon"
	"amalgam/instance"
	"amalgam/match"
	"amalgam/sig"
	"amalgam/subst"
	"amalgam/terms"
	"amalgam/text"
)

func v(name string) api.Term { return api.Term{Var: name} }

func sy(sym int, args ...api.Term) api.Term { return api.Term{Sym: sym, Args: args} }

func bind(name string, t api.Term) api.Bind { return api.Bind{Var: name, T: t} }

// The symbols of example; the first five are the document's.
const a, one, f, plus, times, b, g, zero, sum, both = 0, 1, 2, 3, 4, 5, 6, 7, 8, 9

// example has two units, of which the one is that of two symbols.
func example() api.Signature {
	return api.Signature{
		{Name: "a", Kind: api.Free},
		{Name: "one", Kind: api.Free},
		{Name: "f", Kind: api.Free, Arity: 2},
		{Name: "plus", Kind: api.AC, Arity: 2},
		{Name: "times", Kind: api.ACU, Arity: 2, Unit: "one"},
		{Name: "b", Kind: api.Free},
		{Name: "g", Kind: api.Free, Arity: 1},
		{Name: "zero", Kind: api.Free},
		{Name: "sum", Kind: api.ACU, Arity: 2, Unit: "zero"},
		{Name: "both", Kind: api.ACU, Arity: 2, Unit: "one"},
	}
}

// document is the signature of the document's examples.
func document() api.Signature { return example()[:5] }

// unitFirst has a unit at the place 0, which is each variable's Sym, too, and an ACU symbol at the last place.
func unitFirst() api.Signature {
	return api.Signature{
		{Name: "no", Kind: api.Free},
		{Name: "or", Kind: api.AC, Arity: 2},
		{Name: "h", Kind: api.Free, Arity: 3},
		{Name: "and", Kind: api.ACU, Arity: 2, Unit: "no"},
	}
}

// sumFirst has an AC symbol at the place 0, and no unit.
func sumFirst() api.Signature {
	return api.Signature{
		{Name: "or", Kind: api.AC, Arity: 2},
		{Name: "no", Kind: api.Free},
		{Name: "h", Kind: api.Free, Arity: 3},
		{Name: "xor", Kind: api.AC, Arity: 2},
	}
}

func signatures() []api.Signature {
	return []api.Signature{document(), example(), unitFirst(), sumFirst()}
}

func TestSignaturesAreRight(t *testing.T) {
	for i, s := range signatures() {
		if e, at := sig.Check(s); e != api.OK {
			t.Errorf("signature %d: %d at %d", i, e, at)
		}
	}
}

// binds reads a line; its terms are made canonical, so that a test's line need not be.
func binds(t *testing.T, line string) []api.Bind {
	t.Helper()
	l, e, at := text.Binds(example(), line)
	if e != api.OK {
		t.Fatalf("%s: %d at %d", line, e, at)
	}
	for i := range l {
		l[i].T = canon.Canon(example(), l[i].T)
	}
	return l
}

// list is names with blanks between them.
func list(names string) []string { return strings.Fields(names) }

// numbered are so many names from a number on.
func numbered(from, many int) []string {
	var l []string
	for i := range many {
		l = append(l, "_"+strconv.Itoa(from+i))
	}
	return l
}

// row is a term in which variables stand from left to right, just one more node for each but the last.
func row(names []string) api.Term {
	t := v(names[len(names)-1])
	for _, name := range slices.Backward(names[:len(names)-1]) {
		t = sy(f, v(name), t)
	}
	return t
}

// tower is a term of just n nodes, one within the other.
func tower(n int, leaf api.Term) api.Term {
	for range n - 1 {
		leaf = sy(g, leaf)
	}
	return leaf
}

// many is a term again and again.
func many(n int, t api.Term) []api.Term { return slices.Repeat([]api.Term{t}, n) }

// written tells all of a term, so that two terms with one text are alike in every field.
func written(t api.Term) string {
	var b strings.Builder
	write(&b, t)
	return b.String()
}

func write(b *strings.Builder, t api.Term) {
	b.WriteString(t.Var + "'" + strconv.Itoa(t.Sym))
	if len(t.Args) == 0 {
		return
	}
	b.WriteString("(")
	for _, x := range t.Args {
		write(b, x)
		b.WriteString(" ")
	}
	b.WriteString(")")
}

func told(l []api.Bind) string {
	var b strings.Builder
	for _, x := range l {
		b.WriteString(x.Var + " -> ")
		write(&b, x.T)
		b.WriteString("; ")
	}
	if b.Len() > 4000 {
		return b.String()[:4000] + " .."
	}
	return b.String()
}

// question is what Is and Alike are asked.
type question struct {
	vars []string
	a, b []api.Bind
}

func (x question) String() string {
	return "vars " + strings.Join(x.vars, " ") + "; of " + told(x.a) + " and " + told(x.b)
}

// back is the question the other way round.
func (x question) back() question { return question{x.vars, x.b, x.a} }

func wantIs(t *testing.T, s api.Signature, x question, want []api.Bind, wantIs bool, wantE api.Errno) {
	t.Helper()
	r, is, e := instance.Is(s, x.vars, x.a, x.b)
	if told(r) != told(want) || is != wantIs || e != wantE {
		t.Errorf("Is, %v: %s, %v, %d; want %s, %v, %d", x, told(r), is, e, told(want), wantIs, wantE)
	}
}

func wantAlike(t *testing.T, s api.Signature, x question, want bool, wantE api.Errno) {
	t.Helper()
	if is, e := instance.Alike(s, x.vars, x.a, x.b); is != want || e != wantE {
		t.Errorf("Alike, %v: %v, %d; want %v, %d", x, is, e, want, wantE)
	}
}

// wantError: Is and Alike say the same error, either way round.
func wantError(t *testing.T, s api.Signature, x question, want api.Errno) {
	t.Helper()
	wantIs(t, s, x, nil, false, want)
	wantAlike(t, s, x, false, want)
	wantAlike(t, s, x.back(), false, want)
}

// wantLine: b, read from a line of the example's, is an instance of a by the binds that are told.
func wantLine(t *testing.T, vars, a, b, want string) {
	t.Helper()
	x := question{list(vars), binds(t, a), binds(t, b)}
	wantIs(t, example(), x, binds(t, want), true, api.OK)
	wantShown(t, example(), x)
}

// wantNone: b is no instance of a.
func wantNone(t *testing.T, vars, a, b string) {
	t.Helper()
	wantIs(t, example(), question{list(vars), binds(t, a), binds(t, b)}, nil, false, api.OK)
}

// with puts terms in the places of variables, at one stroke, however great it grows.
func with(l []api.Bind, t api.Term) api.Term {
	if t.Var != "" {
		at := slices.IndexFunc(l, func(b api.Bind) bool { return b.Var == t.Var })
		if at < 0 {
			return t
		}
		return l[at].T
	}
	var args []api.Term
	for _, x := range t.Args {
		args = append(args, with(l, x))
	}
	t.Args = args
	return t
}

// withAll is what binds make of several terms.
func withAll(l []api.Bind, list []api.Term) []api.Term {
	return with(l, sy(f, list...)).Args
}

// variables are a question's vars as terms.
func (x question) variables() []api.Term {
	var l []api.Term
	for _, name := range x.vars {
		l = append(l, v(name))
	}
	return l
}

// again is what the chapter's words make of a question that has no error of its own, said a second time: the patterns lie in one term, in which the variables are renamed place by place.
func again(s api.Signature, x question) ([]api.Bind, bool, api.Errno) {
	patterns, subjects := sy(f, withAll(x.a, x.variables())...), sy(f, withAll(x.b, x.variables())...)
	var old, other []string
	renamed, number := patterns, 0
	for path, t := range terms.All(patterns) {
		if t.Var == "" {
			continue
		}
		at := slices.Index(old, t.Var)
		if at < 0 {
			for number++; terms.Has(subjects, "_"+strconv.Itoa(number)); number++ {
			}
			at, old, other = len(old), append(old, t.Var), append(other, "_"+strconv.Itoa(number))
		}
		renamed, _ = terms.Put(renamed, path, v(other[at]))
	}
	found, is, e := match.First(s, renamed.Args, subjects.Args)
	if e != api.OK || !is {
		return nil, false, e
	}
	var l []api.Bind
	for _, name := range slices.Sorted(slices.Values(old)) {
		t := with(found, v(other[slices.Index(old, name)]))
		if t.Var != name {
			l = append(l, bind(name, t))
		}
	}
	return l, true, api.OK
}

// wantAgain holds Is, and Alike, against the chapter's words said again.
func wantAgain(t *testing.T, s api.Signature, x question) ([]api.Bind, bool, api.Errno) {
	t.Helper()
	r, is, e := again(s, x)
	wantIs(t, s, x, r, is, e)
	_, other, otherE := again(s, x.back())
	if e == api.OK {
		e = otherE
	}
	wantAlike(t, s, x, is && other && e == api.OK, e)
	return instance.Is(s, x.vars, x.a, x.b)
}

// wantShown (P21.2): what Is answers with true is a substitution r, with which, put in behind a, each of vars is equal to what b makes of it.
func wantShown(t *testing.T, s api.Signature, x question) bool {
	t.Helper()
	r, is, e := instance.Is(s, x.vars, x.a, x.b)
	if !is || e != api.OK {
		return false
	}
	if e, at := subst.Check(s, r); e != api.OK {
		t.Errorf("%v: %s is no substitution: %d at %d", x, told(r), e, at)
	}
	for _, y := range x.variables() {
		if !canon.Equal(s, with(r, with(x.a, y)), with(x.b, y)) {
			t.Errorf("%v: %s does not show %s", x, told(r), y.Var)
		}
	}
	return true
}

// maker makes terms and questions by a rule that is the same at each run.
type maker struct{ *rand.Rand }

func newMaker(seed int64) maker { return maker{rand.New(rand.NewSource(seed))} }

// varNames are names of variables, in order.
func varNames() []string { return []string{"X", "Xy2", "Y", "Z", "_1", "_10", "_2", "_3", "_9"} }

// right makes a right term of about so many nodes, of some variables.
func (m maker) right(s api.Signature, n int, vars ...string) api.Term {
	var fitting []int
	for sym, x := range s {
		if (x.Kind == api.Free && x.Arity == 0) == (n < 3) {
			fitting = append(fitting, sym)
		}
	}
	if len(vars) > 0 && (n < 3 && m.Intn(3) > 0 || len(fitting) == 0) {
		return v(vars[m.Intn(len(vars))])
	}
	sym := fitting[m.Intn(len(fitting))]
	many := s[sym].Arity
	if s[sym].Kind != api.Free {
		many += m.Intn(2)
	}
	var args []api.Term
	for range many {
		args = append(args, m.right(s, (n-1)/many, vars...))
	}
	return sy(sym, args...)
}

// wide makes a sum of so many small arguments.
func (m maker) wide(s api.Signature, n int, vars ...string) api.Term {
	sym := m.Intn(len(s))
	for s[sym].Kind == api.Free {
		sym = m.Intn(len(s))
	}
	t := sy(sym)
	for range n {
		t.Args = append(t.Args, m.right(s, 1+m.Intn(3), vars...))
	}
	return t
}

// some are some of the names, in any order.
func (m maker) some(names []string) []string {
	var l []string
	for _, i := range m.Perm(len(names)) {
		if m.Intn(2) == 0 {
			l = append(l, names[i])
		}
	}
	return l
}

// binds makes a substitution of some variables, with terms of about so many nodes, in which some of all variables stand.
func (m maker) binds(s api.Signature, names []string, most int) []api.Bind {
	in := m.some(names)
	var l []api.Bind
	for _, name := range names {
		t := m.right(s, 1+m.Intn(most), in...)
		if m.Intn(5) == 0 {
			t = m.wide(s, 2+m.Intn(most), in...)
		}
		t = canon.Canon(s, t)
		if m.Intn(2) == 0 && t.Var != name {
			l = append(l, bind(name, t))
		}
	}
	return l
}

// question makes one of the first so many names: of any two substitutions; of one and another one that comes out of it, or nearly; of two that are alike, or nearly.
func (m maker) question(s api.Signature, names []string, most int) question {
	x := question{vars: m.some(names), a: m.binds(s, names, most)}
	x.b = m.binds(s, names, most)
	if m.Intn(4) > 0 {
		if c, e := subst.Compose(s, x.a, x.b); e == api.OK {
			x.b = c
		}
	}
	if len(x.b) > 0 && m.Intn(4) == 0 {
		at := m.Intn(len(x.b))
		x.b = slices.Delete(slices.Clone(x.b), at, at+1)
	}
	return x
}

// spoilt makes a term of which some nodes may be wrong.
func (m maker) spoilt(s api.Signature, n int) api.Term {
	t := m.right(s, n, varNames()...)
	for range m.Intn(4) {
		at := &t
		for len(at.Args) > 0 && m.Intn(4) > 0 {
			at = &at.Args[m.Intn(len(at.Args))]
		}
		switch m.Intn(5) {
		case 0:
			at.Var = []string{"X", "Y", "x", "", "_0", "_1", "Abcdefghijklm"}[m.Intn(7)]
		case 1:
			at.Sym = []int{-1, 0, 1, 3, 5, 99, -1 << 63, 1<<63 - 1}[m.Intn(8)]
		case 2:
			at.Args = at.Args[:m.Intn(len(at.Args)+1)]
		default:
			at.Args = slices.Insert(slices.Clone(at.Args), m.Intn(len(at.Args)+1), m.right(s, 3, varNames()...))
		}
	}
	return t
}
