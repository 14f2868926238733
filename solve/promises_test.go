package solve_test

import (
	"slices"
	"strings"
	"testing"

	"amalgam/api"
	"amalgam/canon"
	"amalgam/sig"
	"amalgam/solve"
	"amalgam/subst"
	"amalgam/terms"
)

// The chapter's examples, word by word.
func TestExamples(t *testing.T) {
	for _, x := range []struct {
		in   string
		want [][]api.Bind
	}{
		{"f(X,a) = f(a,Y)", forms(t, "X -> a, Y -> a")},
		{"plus(X,a) = plus(Y,a)", forms(t, "Y -> X")},
		{"plus(X,a) = a", nil},
		{"X = f(X,a)", nil},
	} {
		l, e := solve.Solve(example(), equations(t, x.in))
		wantAnswer(t, x.in, l, e, x.want, api.OK)
	}
	if l, e := solve.Solve(example(), equations(t, "plus(X,Y) = plus(Z,a)")); len(l) != 4 || e != api.OK {
		t.Errorf("%d forms, %d", len(l), e)
	}
	if l, e := solve.Solve(example(), equations(t, "plus(X,Y) = plus(Z,W)")); len(l) != 7 || e != api.OK {
		t.Errorf("%d forms, %d", len(l), e)
	}
	l, e := solve.Solve(example(), []api.Equation{eq(sy(f, v("X"), v("_1")), sy(a))})
	wantAnswer(t, "an equation with _1 in it", l, e, nil, 161)
}

// with puts terms in the places of variables, at one stroke, however great it grows.
func with(l []api.Bind, t api.Term) api.Term {
	if t.Var != "" {
		at := slices.IndexFunc(l, func(b api.Bind) bool { return b.Var == t.Var })
		if at < 0 {
			return t
		}
		return l[at].T
	}
	var args []api.Term
	for _, x := range t.Args {
		args = append(args, with(l, x))
	}
	t.Args = args
	return t
}

// solves: are all sides equal with these binds, modulo associativity and commutativity?
func solves(s api.Signature, u []api.Bind, l []api.Equation) bool {
	p := sig.Plain(s)
	return !slices.ContainsFunc(l, func(q api.Equation) bool { return !canon.Equal(p, with(u, q.L), with(u, q.R)) })
}

// wantSolve holds what P16.1 says of an answer.
func wantSolve(t *testing.T, s api.Signature, l []api.Equation, found [][]api.Bind) {
	t.Helper()
	for i, form := range found {
		if !solves(s, form, l) {
			t.Fatalf("%s: form %d, %s, does not solve", toldEquations(l), i, toldBinds(form))
		}
		if e, at := subst.Check(sig.Plain(s), form); e != api.OK {
			t.Fatalf("%s: form %d, %s, is no substitution: %d at %d", toldEquations(l), i, toldBinds(form), e, at)
		}
		for _, x := range form {
			for _, y := range form {
				if terms.Has(x.T, y.Var) {
					t.Fatalf("%s: form %d, %s: %s stands in a bound term", toldEquations(l), i, toldBinds(form), y.Var)
				}
			}
		}
	}
}

// P16.1 (they solve).
func TestP161(t *testing.T) {
	met, fresh := 0, 0
	for i, s := range signatures() {
		m := newMaker(int64(550 + i))
		for j := range 700 {
			l := m.equations(s, 2, 3+j%12, 2+j%4)
			if j%3 > 0 {
				l = append(l, m.sums(s, 4))
			}
			found, e := solve.Solve(s, l)
			if e != api.OK && (e != api.ErrTooMany || len(found) > 0) {
				t.Fatalf("%s: %d", toldEquations(l), e)
			}
			wantSolve(t, s, l, found)
			for _, form := range found {
				met++
				if slices.ContainsFunc(form, func(b api.Bind) bool { return b.Var[0] == '_' }) {
					fresh++
				}
			}
		}
	}
	if met < 800 || fresh < 200 {
		t.Errorf("%d forms, %d with fresh variables", met, fresh)
	}
}

// varsOf are the variables of equations.
func varsOf(l []api.Equation) []string {
	var names []string
	for _, q := range l {
		names = slices.Concat(names, terms.Vars(q.L), terms.Vars(q.R))
	}
	slices.Sort(names)
	return slices.Compact(names)
}

// isInstance: is u, on some variables, an instance of a form?
func isInstance(p api.Signature, u, form []api.Bind, vars []string) bool {
	var patterns, subjects []api.Term
	for _, name := range vars {
		patterns = append(patterns, canon.Canon(p, with(form, v(name))))
		subjects = append(subjects, canon.Canon(p, with(u, v(name))))
	}
	return fits(p, patterns, subjects, map[string]api.Term{})
}

// fits: can the patterns' variables be given terms so that each pattern is equal to its subject? All are canonical.
func fits(p api.Signature, patterns, subjects []api.Term, given map[string]api.Term) bool {
	if len(patterns) == 0 {
		return true
	}
	x, y := patterns[0], subjects[0]
	patterns, subjects = patterns[1:], subjects[1:]
	if x.Var != "" {
		if known, ok := given[x.Var]; ok {
			return terms.Same(known, y) && fits(p, patterns, subjects, given)
		}
		given[x.Var] = y
		defer delete(given, x.Var)
		return fits(p, patterns, subjects, given)
	}
	if y.Var != "" || x.Sym != y.Sym {
		return false
	}
	if p[x.Sym].Kind == api.Free {
		return fits(p, slices.Concat(x.Args, patterns), slices.Concat(y.Args, subjects), given)
	}
	return dealt(p, x.Sym, x.Args, y.Args, patterns, subjects, given)
}

// dealt gives the first of a sum's arguments each share of the parts that leaves some for the others.
func dealt(p api.Signature, sym int, args, parts, patterns, subjects []api.Term, given map[string]api.Term) bool {
	others, _ := canon.Join(p, sym, args[1:])
	for mask := 1; mask < 1<<len(parts)-1; mask++ {
		var share, rest []api.Term
		for i, x := range parts {
			if mask>>i&1 == 1 {
				share = append(share, x)
			} else {
				rest = append(rest, x)
			}
		}
		sum, _ := canon.Join(p, sym, share)
		left, _ := canon.Join(p, sym, rest)
		if fits(p, slices.Concat([]api.Term{args[0], others}, patterns), slices.Concat([]api.Term{sum, left}, subjects), given) {
			return true
		}
	}
	return false
}

// TestIsInstance: what the tests of P16.2 lean on tells both.
func TestIsInstance(t *testing.T) {
	p := plain()
	for _, x := range []struct {
		u, form string
		want    bool
	}{
		{"X -> a", "X -> a", true}, {"X -> a", "X -> b", false}, {"X -> a", "", true}, {"", "X -> a", false},
		{"X -> plus(a,b), Y -> a", "X -> plus(Y,_1)", true}, {"X -> plus(a,b), Y -> one", "X -> plus(Y,_1)", false},
		{"X -> plus(a,b,b), Y -> plus(a,b)", "X -> plus(_1,_2), Y -> plus(_2,a)", true}, {"X -> plus(a,b,b), Y -> plus(a,b)", "X -> plus(_1,_1), Y -> plus(_2,a)", false},
		{"X -> plus(a,a,b,b), Y -> a", "X -> plus(_1,_1), Y -> a", true}, {"X -> plus(W,f(Z,a))", "X -> plus(_1,f(Z,a)), Y -> Z", false}, {"X -> plus(W,f(Z,a)), Y -> Z", "X -> plus(_1,f(Y,a))", true},
		{"X -> times(a,a), Y -> times(a,one)", "X -> times(_1,_2), Y -> times(_1,_3)", true}, {"X -> times(a,a), Y -> times(b,one)", "X -> times(_1,_2), Y -> times(_1,_3)", false},
	} {
		if got := isInstance(p, binds(t, x.u), binds(t, x.form), []string{"X", "Y"}); got != x.want {
			t.Errorf("%s of %s: %v", x.u, x.form, got)
		}
	}
}

// wantAmong: an answer has a form of which u is an instance.
func wantAmong(t *testing.T, s api.Signature, l []api.Equation, u []api.Bind, found [][]api.Bind) {
	t.Helper()
	vars := varsOf(l)
	if !slices.ContainsFunc(found, func(form []api.Bind) bool { return isInstance(sig.Plain(s), u, form, vars) }) {
		t.Fatalf("%s: %s is left out of %s", toldEquations(l), toldBinds(u), toldForms(found))
	}
}

// substitutions are all that give each of some variables one of these terms; a variable stands for itself where it is its own.
func substitutions(values []api.Term, vars ...string) [][]api.Bind {
	all := [][]api.Bind{nil}
	for _, name := range vars {
		var longer [][]api.Bind
		for _, b := range all {
			for _, x := range values {
				c := append([]api.Bind{}, b...)
				if x.Var != name {
					c = append(c, bind(name, x))
				}
				longer = append(longer, c)
			}
		}
		all = longer
	}
	return all
}

// values are what variables are given, of a signature that has an AC symbol and another one, and constants.
func values(s api.Signature) []api.Term {
	x, y := v("X"), v("V")
	if s[0].Kind == api.AC {
		return []api.Term{x, y, sy(1), sy(0, y, sy(1)), sy(0, sy(1), sy(1)), sy(3, y, sy(1)), sy(3, sy(1), sy(1)), sy(2, y, y, sy(1))}
	}
	return []api.Term{x, y, sy(a), sy(b), sy(one), sy(g, y), sy(plus, y, sy(a)), sy(plus, sy(a), sy(b)), sy(plus, sy(a), sy(a), sy(b)), sy(times, y, sy(one)), sy(f, y, sy(a))}
}

// P16.2 (none is left out): all substitutions of some terms, held against the answer.
func TestP162(t *testing.T) {
	for i, s := range signatures() {
		m := newMaker(int64(560 + i))
		all := substitutions(values(s), "X", "Xa", "Y")
		met := 0
		for j := range 150 {
			l := m.equations(s, 1, 5, 3)
			if j%3 > 0 || len(l) == 0 {
				l = append(l, m.sums(s, 3))
			}
			found, e := solve.Solve(s, l)
			if e == api.ErrTooMany {
				continue
			}
			for _, u := range all {
				if solves(s, u, l) {
					met++
					wantAmong(t, s, l, u, found)
				}
			}
		}
		if met < 500 {
			t.Errorf("signature %d: only %d solved", i, met)
		}
	}
}

// TestP162WhereThereIsOne: of equations that are made so that a substitution solves them.
func TestP162WhereThereIsOne(t *testing.T) {
	for i, s := range signatures() {
		m := newMaker(int64(570 + i))
		of := values(s)[1:]
		met, several := 0, 0
		for range 400 {
			var u []api.Bind
			for _, name := range varNames() {
				u = append(u, bind(name, of[m.Intn(len(of))]))
			}
			slices.SortFunc(u, func(x, y api.Bind) int { return strings.Compare(x.Var, y.Var) })
			var l []api.Equation
			for range 1 + m.Intn(2) {
				x := m.right(s, 1+m.Intn(8), 5)
				l = append(l, eq(x, m.generalised(s, canon.Canon(sig.Plain(s), with(u, x)), u)))
			}
			if !solves(s, u, l) {
				t.Fatalf("%s is not solved by %s", toldEquations(l), toldBinds(u))
			}
			found, e := solve.Solve(s, l)
			if e == api.ErrTooMany || e == api.ErrTermsLong {
				continue
			}
			wantSolve(t, s, l, found)
			wantAmong(t, s, l, u, found)
			met++
			if len(found) > 1 {
				several++
			}
		}
		if met < 250 || several < 50 {
			t.Errorf("signature %d: %d had an answer, %d more than one", i, met, several)
		}
	}
}

// generalised has, at some places of a term at which u's terms stand, or stand as a share of a sum, the variables that u binds to them.
func (m maker) generalised(s api.Signature, t api.Term, u []api.Bind) api.Term {
	for _, i := range m.Perm(len(u)) {
		if m.Intn(2) == 0 && terms.Same(u[i].T, t) {
			return v(u[i].Var)
		}
	}
	if t.Var != "" {
		return t
	}
	var args, named []api.Term
	parts := t.Args
	if s[t.Sym].Kind != api.Free && m.Intn(2) == 0 {
		named, parts = shareNamed(t, u[m.Intn(len(u))])
	}
	for _, x := range parts {
		args = append(args, m.generalised(s, x, u))
	}
	args = append(args, named...)
	if s[t.Sym].Kind != api.Free {
		m.Shuffle(len(args), func(i, j int) { args[i], args[j] = args[j], args[i] })
	}
	t.Args = args
	return t
}

// shareNamed takes a bound sum's parts out of a sum, and tells the variable in their place; not, if they are not all there, or nothing is left beside them.
func shareNamed(t api.Term, b api.Bind) ([]api.Term, []api.Term) {
	if b.T.Var != "" || b.T.Sym != t.Sym || len(b.T.Args) >= len(t.Args) {
		return nil, t.Args
	}
	rest := slices.Clone(t.Args)
	for _, x := range b.T.Args {
		at := slices.IndexFunc(rest, func(y api.Term) bool { return terms.Same(x, y) })
		if at < 0 {
			return nil, t.Args
		}
		rest = slices.Delete(rest, at, at+1)
	}
	return []api.Term{v(b.Var)}, rest
}

// P16.3 (it ends): behind as many steps as it made states, and one; by an error no later.
func TestP163(t *testing.T) {
	well, wrong := 0, 0
	for i, s := range signatures() {
		m := newMaker(int64(580 + i))
		for j := range 400 {
			l := m.equations(s, 4, 3+j%30, 5)
			if j%2 > 0 {
				l = append(l, m.sums(s, 5))
			}
			if slices.ContainsFunc(l, func(q api.Equation) bool { return terms.Size(q.L) > 40 || terms.Size(q.R) > 40 }) {
				continue
			}
			x := started(t, s, l)
			steps := run(t, x)
			made, lie := x.Made()
			_, e := x.Answer()
			if e == api.OK && steps != made+1 || e != api.OK && steps > made || lie != 0 || made > 4097 {
				t.Fatalf("%s: %d steps, %d states made, %d lie there, %d", toldEquations(l), steps, made, lie, e)
			}
			if e == api.OK {
				well++
			} else {
				wrong++
			}
		}
	}
	if well < 500 || wrong < 20 {
		t.Errorf("%d were through well, %d by an error", well, wrong)
	}
}

// TestP163AtTheBounds: those that make the most states.
func TestP163AtTheBounds(t *testing.T) {
	for _, line := range []string{"plus(X,Y) = plus(Z,W); plus(X,Z) = plus(Y,W)", "plus(X,Y,Z) = plus(A,B,C)", "plus(A,B,C,D) = plus(E,F,G,H)", "times(plus(X,Y),plus(Z,W)) = times(plus(A,B),plus(C,D))", "plus(f(X,Y),f(Y,Z),f(Z,X)) = plus(f(A,B),f(B,C),f(C,A))", "plus(X,X,Y) = plus(Z,Z,W); times(X,Y) = times(Z,W)"} {
		m := machine(t, line)
		steps := run(t, m)
		made, _ := m.Made()
		if _, e := m.Answer(); e == api.OK && steps != made+1 || e != api.OK && steps > made {
			t.Errorf("%s: %d steps, %d states made, %d", line, steps, made, e)
		}
	}
}
