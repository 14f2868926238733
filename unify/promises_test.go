package unify_test

import (
	"slices"
	"strings"
	"testing"

	"amalgam/abstract"
	"amalgam/api"
	"amalgam/canon"
	"amalgam/derive"
	"amalgam/linsolve"
	"amalgam/pick"
	"amalgam/sig"
	"amalgam/step"
	"amalgam/subst"
	"amalgam/terms"
	"amalgam/unify"
)

// wantTheyUnify holds what P18.1 says of an answer, and T1: steps lead from the one side to the other.
func wantTheyUnify(t *testing.T, s api.Signature, q api.Equation, l [][]api.Bind) {
	t.Helper()
	for i, b := range l {
		if e, at := subst.Check(s, b); e != api.OK {
			t.Fatalf("%s: answer %d, %s, is no substitution: %d at %d", told(q), i, toldBinds(b), e, at)
		}
		left, right := with(b, q.L), with(b, q.R)
		is, e := unify.Is(s, q.L, q.R, b)
		if great := terms.Size(left) > 400 || terms.Size(right) > 400; great && (is || e != api.ErrSubstGrown) || !great && (!is || e != api.OK) {
			t.Fatalf("%s: Is says %v, %d of answer %d, %s", told(q), is, e, i, toldBinds(b))
		}
		if !unifies(s, q, b) {
			t.Fatalf("%s: answer %d, %s, does not unify", told(q), i, toldBinds(b))
		}
		if terms.Size(left)+terms.Size(right) > 60 {
			continue
		}
		steps, ok := derive.Way(s, left, right)
		if end, e, _ := derive.Play(s, left, steps); !ok || e != api.OK || written(end) != written(right) {
			t.Fatalf("%s: no steps show answer %d, %s", told(q), i, toldBinds(b))
		}
	}
}

// P18.1 (T1): Is says true of each answer.
func TestP181(t *testing.T) {
	for i, s := range signatures() {
		m := newMaker(int64(750 + i))
		met := 0
		for j := range 800 {
			q := m.equation(s, 3+j%14, 2+j%3)
			l, e := unify.Unify(s, q.L, q.R)
			if e != api.OK && (e != api.ErrTooMany && e != api.ErrTermsLong || len(l) > 0) {
				t.Fatalf("%s: %d", told(q), e)
			}
			wantTheyUnify(t, s, q, l)
			met += len(l)
		}
		if met < 400 {
			t.Errorf("signature %d: only %d answers", i, met)
		}
	}
}

// P18.1 of answers that make a side too great.
func TestP181OfGreatSides(t *testing.T) {
	q := equation(t, "f(f(X,X),f(f(Y,Y),f(Z,f(W,V)))) = f(f(f(Y,Y),X),f(f(f(Z,Z),Y),f(f(W,W),f(f(V,V),f(U,U)))))")
	l, e := unify.Unify(example(), q.L, q.R)
	if e != api.OK || len(l) != 1 || terms.Size(with(l[0], q.L)) > 400 {
		t.Fatalf("%d answers, %d", len(l), e)
	}
	wantTheyUnify(t, example(), q, l)
	// The sides are more than eleven times the last variable's term, which may have 400 nodes.
	q = equation(t, "f(f(X,f(X,f(X,X))),f(X,f(Y,f(Z,f(W,f(V,f(U,T)))))))= f(f(X,f(X,f(X,X))),f(f(Y,Y),f(f(Z,Z),f(f(W,W),f(f(V,V),f(f(U,U),f(f(T,T),S)))))))")
	l, e = unify.Unify(example(), q.L, q.R)
	if e != api.OK || len(l) != 1 || terms.Size(with(l[0], q.L)) <= 400 {
		t.Fatalf("%s, %d", toldLists(l), e)
	}
	wantIs(t, example(), q, l[0], false, api.ErrSubstGrown)
	wantTheyUnify(t, example(), q, l)
}

// isInstance: is u, on some variables, an instance of a, modulo the axioms?
func isInstance(s api.Signature, u, a []api.Bind, vars []string) bool {
	var patterns, subjects []api.Term
	for _, name := range vars {
		patterns = append(patterns, canon.Canon(s, with(a, v(name))))
		subjects = append(subjects, canon.Canon(s, with(u, v(name))))
	}
	return fits(s, patterns, subjects, map[string]api.Term{})
}

// fits: can the patterns' variables be given terms so that each pattern is equal to its subject? All are canonical.
func fits(s api.Signature, patterns, subjects []api.Term, given map[string]api.Term) bool {
	if len(patterns) == 0 {
		return true
	}
	x, y := patterns[0], subjects[0]
	patterns, subjects = patterns[1:], subjects[1:]
	if x.Var != "" {
		if known, ok := given[x.Var]; ok {
			return terms.Same(known, y) && fits(s, patterns, subjects, given)
		}
		given[x.Var] = y
		defer delete(given, x.Var)
		return fits(s, patterns, subjects, given)
	}
	if s[x.Sym].Kind != api.Free {
		return dealt(s, x.Sym, x.Args, canon.Parts(s, x.Sym, y), patterns, subjects, given)
	}
	if y.Var != "" || x.Sym != y.Sym {
		return false
	}
	return fits(s, slices.Concat(x.Args, patterns), slices.Concat(y.Args, subjects), given)
}

// dealt gives the first of a sum's arguments each share of the parts, and the others the rest; either may be empty, if the symbol has a unit.
func dealt(s api.Signature, sym int, args, parts, patterns, subjects []api.Term, given map[string]api.Term) bool {
	others, _ := canon.Join(s, sym, args[1:])
	for mask := range 1 << len(parts) {
		var share, rest []api.Term
		for i, x := range parts {
			if mask>>i&1 == 1 {
				share = append(share, x)
			} else {
				rest = append(rest, x)
			}
		}
		whole, ok := canon.Join(s, sym, share)
		left, okToo := canon.Join(s, sym, rest)
		if ok && okToo && fits(s, slices.Concat([]api.Term{args[0], others}, patterns), slices.Concat([]api.Term{whole, left}, subjects), given) {
			return true
		}
	}
	return false
}

// TestIsInstance: what the tests of P18.2 lean on tells both.
func TestIsInstance(t *testing.T) {
	for _, x := range []struct {
		u, a string
		want bool
	}{
		{"X -> a", "X -> a", true}, {"X -> a", "X -> b", false}, {"X -> a", "", true}, {"", "X -> a", false},
		{"X -> plus(a,a,one), Y -> a", "X -> plus(Y,Z)", true}, {"X -> one", "X -> a", false}, {"X -> Z, Y -> Z", "X -> Y", true}, {"X -> a, Y -> one", "X -> times(Y,Z)", true},
		{"X -> plus(a,b), Y -> one", "X -> plus(Y,_1)", false}, {"X -> a, Y -> a", "X -> plus(Y,_1)", false},
		{"X -> plus(a,b,b), Y -> plus(a,b)", "X -> plus(_1,_2), Y -> plus(_2,a)", true}, {"X -> plus(a,b,b), Y -> plus(a,b)", "X -> plus(_1,_1), Y -> plus(_2,a)", false},
		{"X -> one, Y -> one", "X -> times(_1,_2), Y -> times(_2,_2,_1)", true}, {"X -> one, Y -> a", "X -> times(_1,_2), Y -> times(_2,_2,_1)", false},
		{"X -> times(a,b), Y -> a", "X -> times(_1,_2,_3), Y -> _2", true}, {"X -> times(a,b), Y -> g(a)", "X -> times(_1,_2,_3), Y -> _2", false},
		{"X -> g(Y)", "X -> times(_1,g(Y)), Y -> sum(_2,Y)", true}, {"X -> Z, Y -> Z", "X -> times(_1,_2), Y -> times(_1,a)", false},
		{"X -> a, Y -> a", "X -> times(Y,Y)", false}, {"X -> times(a,a), Y -> a", "X -> times(Y,Y)", true}, {"X -> one, Y -> one", "X -> times(Y,Y)", true},
	} {
		if got := isInstance(example(), binds(t, x.u), binds(t, x.a), []string{"X", "Y"}); got != x.want {
			t.Errorf("%s of %s: %v", x.u, x.a, got)
		}
	}
}

func isAmong(s api.Signature, q api.Equation, u []api.Bind, l [][]api.Bind) bool {
	vars := varsOf(q)
	return slices.ContainsFunc(l, func(a []api.Bind) bool { return isInstance(s, u, a, vars) })
}

func wantAmong(t *testing.T, s api.Signature, q api.Equation, u []api.Bind, l [][]api.Bind) {
	t.Helper()
	if !isAmong(s, q, u, l) {
		t.Fatalf("%s: %s is left out of %s", told(q), toldBinds(u), toldLists(l))
	}
}

// substitutions are all that give each of some variables one of these terms; a variable stands for itself where it is its own.
func substitutions(values []api.Term, vars ...string) [][]api.Bind {
	all := [][]api.Bind{nil}
	for _, name := range vars {
		var longer [][]api.Bind
		for _, b := range all {
			for _, x := range values {
				c := slices.Clone(b)
				if x.Var != name {
					c = append(c, bind(name, x))
				}
				longer = append(longer, c)
			}
		}
		all = longer
	}
	return all
}

// values are what variables are given, canonical by the signature: variables, units, and what symbols make of them.
func values(s api.Signature) []api.Term {
	x, y := v("X"), v("V")
	switch {
	case s[0].Name == "no":
		return []api.Term{x, y, sy(0), sy(1, y, sy(0)), sy(1, sy(0), sy(0)), sy(3, x, y), sy(3, y, y), sy(2, y, y, sy(0))}
	case s[0].Name == "or":
		return []api.Term{x, y, sy(1), sy(0, y, sy(1)), sy(0, sy(1), sy(1)), sy(3, y, sy(1)), sy(3, sy(1), sy(1)), sy(2, y, y, sy(1))}
	}
	l := []api.Term{x, y, sy(a), sy(one), sy(plus, y, sy(a)), sy(plus, sy(a), sy(one)), sy(times, y, sy(a)), sy(times, sy(a), sy(a)), sy(f, y, sy(a))}
	if len(s) > sum {
		l = append(l, sy(zero), sy(g, y), sy(sum, sy(a), sy(one)))
	}
	return l
}

// P18.2 (T2): all substitutions of some terms of which Is says true are instances of an answer.
func TestP182(t *testing.T) {
	for i, s := range signatures() {
		m := newMaker(int64(760 + i))
		all := substitutions(values(s), "X", "Xa", "Y")
		met, units := 0, 0
		for range 120 {
			q := m.equation(s, 6, 3)
			l, e := unify.Unify(s, q.L, q.R)
			if e != api.OK {
				continue
			}
			places := sig.Units(s)
			for _, u := range all {
				if is, e := unify.Is(s, q.L, q.R, u); !is || e != api.OK {
					continue
				}
				met++
				if slices.ContainsFunc(u, func(b api.Bind) bool { return len(b.T.Args) == 0 && b.T.Var == "" && slices.Contains(places, b.T.Sym) }) {
					units++
				}
				wantAmong(t, s, q, u, l)
			}
		}
		if met < 1000 || i < 3 && units < 300 {
			t.Errorf("signature %d: only %d unified, %d with a unit", i, met, units)
		}
	}
}

// TestP182WhereThereIsOne: of equations that are made so that a substitution unifies them.
func TestP182WhereThereIsOne(t *testing.T) {
	for i, s := range signatures() {
		m := newMaker(int64(770 + i))
		of := slices.DeleteFunc(values(s), func(x api.Term) bool { return terms.Has(x, "X") })
		met, several := 0, 0
		for range 400 {
			var u []api.Bind
			for _, name := range varNames()[:4] {
				u = append(u, bind(name, of[m.Intn(len(of))]))
			}
			slices.SortFunc(u, func(x, y api.Bind) int { return strings.Compare(x.Var, y.Var) })
			x := m.right(s, 1+m.Intn(8), 4)
			q := eq(x, m.generalised(s, canon.Canon(s, with(u, x)), u))
			l, e := unify.Unify(s, q.L, q.R)
			if e == api.ErrTooMany || e == api.ErrTermsLong {
				continue
			}
			wantIs(t, s, q, u, true, api.OK)
			wantTheyUnify(t, s, q, l)
			wantAmong(t, s, q, u, l)
			met++
			if len(l) > 1 {
				several++
			}
		}
		if met < 200 || several < 50 {
			t.Errorf("signature %d: %d had an answer, %d more than one", i, met, several)
		}
	}
}

// generalised has, at some places of a term at which u's terms stand, or stand as a share of a sum, the variables that u binds to them; and, beneath a symbol that has a unit, variables that are bound to the unit.
func (m maker) generalised(s api.Signature, t api.Term, u []api.Bind) api.Term {
	for _, i := range m.Perm(len(u)) {
		if m.Intn(2) == 0 && terms.Same(u[i].T, t) {
			return v(u[i].Var)
		}
	}
	if t.Var != "" {
		return t
	}
	var args, named []api.Term
	parts := t.Args
	if s[t.Sym].Kind != api.Free && m.Intn(2) == 0 {
		named, parts = shareNamed(t, u[m.Intn(len(u))])
	}
	for _, x := range parts {
		args = append(args, m.generalised(s, x, u))
	}
	args = append(args, named...)
	if unit, ok := sig.Unit(s, t.Sym); ok {
		for _, b := range u {
			if terms.Same(b.T, sy(unit)) {
				args = append(args, v(b.Var))
			}
		}
	}
	if s[t.Sym].Kind != api.Free {
		m.Shuffle(len(args), func(i, j int) { args[i], args[j] = args[j], args[i] })
	}
	t.Args = args
	return t
}

// shareNamed takes a bound sum's parts out of a sum, and tells the variable in their place; not, if they are not all there, or nothing is left beside them.
func shareNamed(t api.Term, b api.Bind) ([]api.Term, []api.Term) {
	if b.T.Var != "" || b.T.Sym != t.Sym || len(b.T.Args) == 0 || len(b.T.Args) >= len(t.Args) {
		return nil, t.Args
	}
	rest := slices.Clone(t.Args)
	for _, x := range b.T.Args {
		at := slices.IndexFunc(rest, func(y api.Term) bool { return terms.Same(x, y) })
		if at < 0 {
			return nil, t.Args
		}
		rest = slices.Delete(rest, at, at+1)
	}
	return []api.Term{v(b.Var)}, rest
}

// P18.3: turned round the list is empty just if it was, and complete, too.
func TestP183(t *testing.T) {
	for i, s := range signatures() {
		m := newMaker(int64(780 + i))
		all := substitutions(values(s), "X", "Xa")
		some, none, met := 0, 0, 0
		for j := range 500 {
			q := m.equation(s, 3+j%9, 2)
			l, e := unify.Unify(s, q.L, q.R)
			back, other := unify.Unify(s, q.R, q.L)
			if e != api.OK || other != api.OK {
				continue
			}
			if (len(l) == 0) != (len(back) == 0) {
				t.Fatalf("%s: %s; turned round %s", told(q), toldLists(l), toldLists(back))
			}
			if len(l) > 0 {
				some++
			} else {
				none++
			}
			wantTheyUnify(t, s, eq(q.R, q.L), back)
			for _, u := range all {
				if unifies(s, q, u) {
					met++
					wantAmong(t, s, q, u, back)
				}
			}
		}
		if some < 50 || none < 50 || met < 500 {
			t.Errorf("signature %d: %d with answers, %d without, %d unified", i, some, none, met)
		}
	}
}

// free is a signature of free symbols, among which others stand that no term has.
func free() api.Signature {
	s := slices.Clone(example())
	s[plus] = api.Symbol{Name: "h", Kind: api.Free, Arity: 3}
	s[sum] = api.Symbol{Name: "c", Kind: api.Free}
	return s
}

// freely makes a term of free symbols alone.
func (m maker) freely(n, vars int) api.Term {
	if n < 2 {
		if m.Intn(3) > 0 {
			return v(varNames()[m.Intn(vars)])
		}
		return sy([]int{a, b, one}[m.Intn(3)])
	}
	sym := []int{f, g, plus}[m.Intn(3)]
	t := sy(sym)
	for range free()[sym].Arity {
		t.Args = append(t.Args, m.freely((n-1)/free()[sym].Arity, vars))
	}
	return t
}

// P18.4 (T7): of free symbols alone there is one answer at most; it is there just if step's Free finds one, and each is an instance of the other.
func TestP184(t *testing.T) {
	m := newMaker(790)
	some, none := 0, 0
	for j := range 6000 {
		q := eq(m.freely(1+m.Intn(20), 2+j%4), m.freely(1+m.Intn(20), 2+j%4))
		if j%2 == 0 {
			// The right side has places, at which the left one's variables stand, in common with it.
			u := []api.Bind{bind("X", m.freely(3, 1)), bind("Xa", v("X")), bind("Y", m.freely(4, 2))}
			q.R = m.generalised(free(), with(u, q.L), u)
		}
		l, e := unify.Unify(free(), q.L, q.R)
		if e == api.ErrTermsLong {
			continue
		}
		if e != api.OK || len(l) > 1 {
			t.Fatalf("%s: %d answers, %d", told(q), len(l), e)
		}
		want, ok, e := step.Free(free(), []api.Equation{q})
		if e != api.OK || ok != (len(l) == 1) {
			t.Fatalf("%s: %d answers; Free says %v, %d", told(q), len(l), ok, e)
		}
		if !ok {
			none++
			continue
		}
		some++
		wantTheyUnify(t, free(), q, l)
		if vars := varsOf(q); !isInstance(free(), want, l[0], vars) || !isInstance(free(), l[0], want, vars) {
			t.Fatalf("%s: %s; Free says %s", told(q), toldBinds(l[0]), toldBinds(want))
		}
	}
	if some < 500 || none < 500 {
		t.Errorf("%d with an answer, %d without", some, none)
	}
}

// TestGroundTerms (T3): terms without variables have the answer that binds nothing just if they are equal modulo the axioms.
func TestGroundTerms(t *testing.T) {
	for i, s := range signatures() {
		m := newMaker(int64(800 + i))
		constant := slices.IndexFunc(s, func(x api.Symbol) bool { return x.Kind == api.Free && x.Arity == 0 })
		ground := func(n int) api.Term {
			x := m.right(s, n, 5)
			var all []api.Bind
			for _, name := range varNames() {
				all = append(all, bind(name, sy(constant)))
			}
			return with(all, x)
		}
		equal := 0
		for j := range 1500 {
			n := 1 + j%8
			q := eq(ground(n), ground(n))
			if j%3 == 0 {
				q.R = canon.Canon(s, q.L)
			}
			l, e := unify.Unify(s, q.L, q.R)
			if e == api.ErrTermsLong {
				continue
			}
			is := canon.Equal(s, q.L, q.R)
			if is {
				equal++
			}
			if e == api.ErrTooMany && is || e == api.OK && (is != (len(l) == 1) || len(l) > 1 || is && len(l[0]) > 0) {
				t.Fatalf("%s: %s, %d; equal: %v", told(q), toldLists(l), e, is)
			}
		}
		if equal < 200 {
			t.Errorf("signature %d: only %d were equal", i, equal)
		}
	}
}

// TestPureSums (T4): an equation of variables beneath one AC symbol has an answer for each subset of the minimal solutions that reaches each variable.
func TestPureSums(t *testing.T) {
	for _, x := range []struct {
		line string
		want int
	}{
		{"plus(X,Y) = plus(Z,W)", 7}, {"plus(X,X) = plus(Y,Y,Y)", 1}, {"plus(X,Y) = plus(Z,Z)", 5}, {"plus(X,X,Y) = plus(Z,Z,Z)", 5}, {"plus(X,X,Y) = plus(Z,W)", 19}, {"plus(X,X) = plus(Y,Y,Z)", 1},
	} {
		q := equation(t, x.line)
		pure, _ := abstract.Pure(example(), plus, eq(canon.Canon(example(), q.L), canon.Canon(example(), q.R)))
		rows, _ := linsolve.Basis(abstract.Counts(pure.Left), abstract.Counts(pure.Right))
		masks := 0
		for range pick.All(rows, abstract.Wants(pure.Left, pure.Right)) {
			masks++
		}
		if l, e := unify.Unify(example(), q.L, q.R); e != api.OK || len(l) != x.want || masks != x.want {
			t.Errorf("%s: %d answers, %d masks, %d", x.line, len(l), masks, e)
		}
	}
}
