package minimise_test

import (
	"math/rand"
	"slices"
	"strconv"
	"strings"
	"testing"

	"amalgam/api"
	"amalgam/canon"
	"amalgam/instance"
	"amalgam/minimise"
	"amalgam/sig"
	"amalgam/subst"
	"amalgam/text"
)

func v(name string) api.Term { return api.Term{Var: name} }

func sy(sym int, args ...api.Term) api.Term { return api.Term{Sym: sym, Args: args} }

func bind(name string, t api.Term) api.Bind { return api.Bind{Var: name, T: t} }

// The symbols of example; the first five are the document's.
const a, one, f, plus, times, b, g = 0, 1, 2, 3, 4, 5, 6

// example has two units, of which the one is that of two symbols.
func example() api.Signature {
	return api.Signature{
		{Name: "a", Kind: api.Free},
		{Name: "one", Kind: api.Free},
		{Name: "f", Kind: api.Free, Arity: 2},
		{Name: "plus", Kind: api.AC, Arity: 2},
		{Name: "times", Kind: api.ACU, Arity: 2, Unit: "one"},
		{Name: "b", Kind: api.Free},
		{Name: "g", Kind: api.Free, Arity: 1},
		{Name: "zero", Kind: api.Free},
		{Name: "sum", Kind: api.ACU, Arity: 2, Unit: "zero"},
		{Name: "both", Kind: api.ACU, Arity: 2, Unit: "one"},
	}
}

// unitFirst has a unit at the place 0, which is each variable's Sym, too.
func unitFirst() api.Signature {
	return api.Signature{
		{Name: "no", Kind: api.Free},
		{Name: "or", Kind: api.AC, Arity: 2},
		{Name: "h", Kind: api.Free, Arity: 3},
		{Name: "and", Kind: api.ACU, Arity: 2, Unit: "no"},
	}
}

// sumFirst has an AC symbol at the place 0, and no unit.
func sumFirst() api.Signature {
	return api.Signature{
		{Name: "or", Kind: api.AC, Arity: 2},
		{Name: "no", Kind: api.Free},
		{Name: "h", Kind: api.Free, Arity: 3},
	}
}

func signatures() []api.Signature {
	return []api.Signature{example()[:5], example(), unitFirst(), sumFirst()}
}

func TestSignaturesAreRight(t *testing.T) {
	for i, s := range signatures() {
		if e, at := sig.Check(s); e != api.OK {
			t.Errorf("signature %d: %d at %d", i, e, at)
		}
	}
}

// binds reads a line; its terms are made canonical, so that a test's line need not be.
func binds(t *testing.T, line string) []api.Bind {
	t.Helper()
	l, e, at := text.Binds(example(), line)
	if e != api.OK {
		t.Fatalf("%s: %d at %d", line, e, at)
	}
	for i := range l {
		l[i].T = canon.Canon(example(), l[i].T)
	}
	return l
}

// members reads a line of each member, with ; between them; each may be empty, but an empty text has none.
func members(t *testing.T, lines string) [][]api.Bind {
	t.Helper()
	var l [][]api.Bind
	if lines == "" {
		return l
	}
	for line := range strings.SplitSeq(lines, ";") {
		l = append(l, binds(t, line))
	}
	return l
}

// list is names with blanks between them.
func list(names string) []string { return strings.Fields(names) }

// tower is a term of just n nodes, one within the other.
func tower(n int, leaf api.Term) api.Term {
	for range n - 1 {
		leaf = sy(g, leaf)
	}
	return leaf
}

// towers are so many substitutions of X, none of which is an instance of another one.
func towers(n int) [][]api.Bind {
	var l [][]api.Bind
	for i := range n {
		l = append(l, []api.Bind{bind("X", sy(f, tower(1+i/10, sy(a)), tower(1+i%10, sy(a))))})
	}
	return l
}

// write tells all of a term.
func write(b *strings.Builder, t api.Term) {
	b.WriteString(t.Var + "'" + strconv.Itoa(t.Sym))
	if len(t.Args) == 0 {
		return
	}
	b.WriteString("(")
	for _, x := range t.Args {
		write(b, x)
		b.WriteString(" ")
	}
	b.WriteString(")")
}

// told tells all of a substitution, so that two with one text are alike in every field.
func told(l []api.Bind) string {
	var b strings.Builder
	for _, x := range l {
		b.WriteString(x.Var + " -> ")
		write(&b, x.T)
		b.WriteString(", ")
	}
	return b.String()
}

func toldAll(l [][]api.Bind) string {
	var b strings.Builder
	for _, x := range l {
		b.WriteString(told(x) + "; ")
	}
	return b.String()
}

// short is a text that is not too long to be read.
func short(text string) string {
	if len(text) > 3000 {
		return text[:3000] + " .."
	}
	return text
}

func wantMinimise(t *testing.T, s api.Signature, vars []string, l, want [][]api.Bind, wantE api.Errno) {
	t.Helper()
	left, e := minimise.Minimise(s, vars, l)
	if len(left) != len(want) || toldAll(left) != toldAll(want) || e != wantE {
		t.Errorf("Minimise, vars %s, of %s: %s, %d; want %s, %d", short(strings.Join(vars, " ")), short(toldAll(l)), short(toldAll(left)), e, short(toldAll(want)), wantE)
	}
}

func wantCovers(t *testing.T, s api.Signature, vars []string, l [][]api.Bind, b []api.Bind, want int, wantIs bool, wantE api.Errno) {
	t.Helper()
	at, is, e := minimise.Covers(s, vars, l, b)
	if at != want || is != wantIs || e != wantE {
		t.Errorf("Covers, vars %s, of %s, and %s: %d, %v, %d; want %d, %v, %d", short(strings.Join(vars, " ")), short(toldAll(l)), short(told(b)), at, is, e, want, wantIs, wantE)
	}
}

// wantError: Minimise and Covers say the same error, whatever Covers is asked of.
func wantError(t *testing.T, s api.Signature, vars []string, l [][]api.Bind, want api.Errno) {
	t.Helper()
	wantMinimise(t, s, vars, l, nil, want)
	wantCovers(t, s, vars, l, nil, 0, false, want)
	wantCovers(t, s, vars, l, []api.Bind{bind("X", v("X"))}, 0, false, want)
}

// wantLeft: of members, read from lines of the example's, those at some places are left.
func wantLeft(t *testing.T, vars, lines string, places ...int) {
	t.Helper()
	l := members(t, lines)
	var want [][]api.Bind
	for _, at := range places {
		want = append(want, l[at])
	}
	wantMinimise(t, example(), list(vars), l, want, api.OK)
}

// wantFirst: of members, read from lines of the example's, b is an instance of the one at a place, and of none ahead of it; of none, if the place is below 0.
func wantFirst(t *testing.T, vars, lines, b string, place int) {
	t.Helper()
	wantCovers(t, example(), list(vars), members(t, lines), binds(t, b), max(place, 0), place >= 0, api.OK)
}

// again is what the chapter's words make of a list that has no error of its own, said a second time: what is left out goes by what each is an instance of, told by names.
func again(s api.Signature, vars []string, l [][]api.Bind) ([][]api.Bind, api.Errno) {
	above := map[[2]int]bool{} // of places: is the second one an instance of the first?
	for i := range l {
		for j := range l {
			if i == j {
				continue
			}
			_, is, e := instance.Is(s, vars, l[i], l[j])
			if e != api.OK {
				return nil, e
			}
			above[[2]int{i, j}] = is
		}
	}
	var left [][]api.Bind
	for j := range l {
		out := false
		for i := range l {
			below := above[[2]int{i, j}]
			out = out || i != j && below && !above[[2]int{j, i}] || i < j && below
		}
		if !out {
			left = append(left, l[j])
		}
	}
	return left, api.OK
}

// coversAgain is the same of Covers.
func coversAgain(s api.Signature, vars []string, l [][]api.Bind, b []api.Bind) (int, bool, api.Errno) {
	for i := range l {
		if _, is, e := instance.Is(s, vars, l[i], b); e != api.OK {
			return 0, false, e
		} else if is {
			return i, true, api.OK
		}
	}
	return 0, false, api.OK
}

// maker makes substitutions by a rule that is the same at each run.
type maker struct{ *rand.Rand }

func newMaker(seed int64) maker { return maker{rand.New(rand.NewSource(seed))} }

// varNames are names of variables, in order.
func varNames() []string { return []string{"X", "Xy2", "Y", "Z", "_1", "_10", "_2", "_3", "_9"} }

// right makes a right term of about so many nodes, of some variables.
func (m maker) right(s api.Signature, n int, vars ...string) api.Term {
	var fitting []int
	for sym, x := range s {
		if (x.Kind == api.Free && x.Arity == 0) == (n < 3) {
			fitting = append(fitting, sym)
		}
	}
	if len(vars) > 0 && (n < 3 && m.Intn(3) > 0 || len(fitting) == 0) {
		return v(vars[m.Intn(len(vars))])
	}
	sym := fitting[m.Intn(len(fitting))]
	many := s[sym].Arity
	if s[sym].Kind != api.Free {
		many += m.Intn(2)
	}
	var args []api.Term
	for range many {
		args = append(args, m.right(s, (n-1)/many, vars...))
	}
	return sy(sym, args...)
}

// wide makes a sum of so many small arguments.
func (m maker) wide(s api.Signature, n int, vars ...string) api.Term {
	sym := m.Intn(len(s))
	for s[sym].Kind == api.Free {
		sym = m.Intn(len(s))
	}
	t := sy(sym)
	for range n {
		t.Args = append(t.Args, m.right(s, 1+m.Intn(3), vars...))
	}
	return t
}

// some are some of the names, in any order.
func (m maker) some(names []string) []string {
	var l []string
	for _, i := range m.Perm(len(names)) {
		if m.Intn(2) == 0 {
			l = append(l, names[i])
		}
	}
	return l
}

// binds makes a substitution of some variables, with terms of about so many nodes, in which some of all variables stand.
func (m maker) binds(s api.Signature, names []string, most int) []api.Bind {
	in := m.some(names)
	var l []api.Bind
	for _, name := range names {
		t := m.right(s, 1+m.Intn(most), in...)
		if m.Intn(8) == 0 {
			t = m.wide(s, 2+m.Intn(most), in...)
		}
		t = canon.Canon(s, t)
		if m.Intn(2) == 0 && t.Var != name {
			l = append(l, bind(name, t))
		}
	}
	return l
}

// members makes a list of which many come out of others, ahead of them or behind.
func (m maker) members(s api.Signature, names []string, many, most int) [][]api.Bind {
	var l [][]api.Bind
	for range many {
		b := m.binds(s, names, most)
		if m.Intn(20) == 0 {
			// More takers than a search goes through.
			b = []api.Bind{bind("X", canon.Canon(s, m.wide(s, 12, list("A B C D E F G")...)))}
		}
		if len(l) > 0 && m.Intn(3) > 0 {
			if c, e := subst.Compose(s, l[m.Intn(len(l))], b); e == api.OK {
				b = c
			}
		}
		if len(l) > 0 && m.Intn(4) == 0 {
			b, _ = subst.Rename(s, l[m.Intn(len(l))], nil, 20)
			b = slices.DeleteFunc(b, func(x api.Bind) bool { return x.T.Var == x.Var })
		}
		l = slices.Insert(l, m.Intn(len(l)+1), b)
	}
	return l
}

// spoilt makes a term of which some nodes may be wrong.
func (m maker) spoilt(s api.Signature, n int) api.Term {
	t := m.right(s, n, varNames()...)
	for range m.Intn(4) {
		at := &t
		for len(at.Args) > 0 && m.Intn(4) > 0 {
			at = &at.Args[m.Intn(len(at.Args))]
		}
		switch m.Intn(4) {
		case 0:
			at.Var = []string{"X", "Y", "x", "", "_0", "_1", "Abcdefghijklm"}[m.Intn(7)]
		case 1:
			at.Sym = []int{-1, 0, 1, 3, 5, 99, -1 << 63, 1<<63 - 1}[m.Intn(8)]
		case 2:
			at.Args = at.Args[:m.Intn(len(at.Args)+1)]
		default:
			at.Args = slices.Insert(slices.Clone(at.Args), m.Intn(len(at.Args)+1), m.right(s, 3, varNames()...))
		}
	}
	return t
}
