package state_test

import (
	"slices"
	"testing"

	"amalgam/api"
	"amalgam/canon"
	"amalgam/state"
	"amalgam/subst"
	"amalgam/terms"
)

// P15.1: the chapter's examples, word by word.
func TestP151(t *testing.T) {
	x := chapters(t)
	wantNext(t, "the chapter's state", x, 1, true)
	y, e := state.Replace(x, 1, nil)
	if e != api.OK {
		t.Error(e)
	}
	wantState(t, "Replace", y, read(t, "X = f(Y,Y); f(X,a) = Z", "", 0))
	wantNext(t, "what is left", y, 0, true)
	y, e = state.Replace(x, 3, nil)
	wantError(t, "Replace at 3", y, e, 151)
	y, e = state.Bind(plain(), x, bind("Y", sy(a)))
	if e != api.OK {
		t.Error(e)
	}
	wantState(t, "Bind of Y -> a", y, read(t, "X = f(a,a); a = a; f(X,a) = Z", "Y -> a", 0))
	y, e = state.Bind(plain(), x, bind("Y", term(t, "f(Y,a)")))
	wantError(t, "Bind of Y -> f(Y,a)", y, e, 152)
	y, e = state.Bind(plain(), read(t, "f(Y,Y) = Z", "", 0), bind("Y", tower(200, sy(a))))
	wantError(t, "Bind of a great term", y, e, 73)
	wantState(t, "behind all of it", x, chapters(t))
}

// varsOf are the variables that stand in equations and in bound terms.
func varsOf(x api.State) []string {
	var l []string
	for _, q := range x.Equations {
		l = slices.Concat(l, terms.Vars(q.L), terms.Vars(q.R))
	}
	for _, b := range x.Binds {
		l = slices.Concat(l, terms.Vars(b.T))
	}
	slices.Sort(l)
	return slices.Compact(l)
}

func boundBy(x api.State) []string {
	var l []string
	for _, b := range x.Binds {
		l = append(l, b.Var)
	}
	return l
}

// P15.2 (gone).
func TestP152(t *testing.T) {
	solved, met := 0, 0
	for i, s := range signatures() {
		m := newMaker(int64(370 + i))
		for j := range 2500 {
			x, b := m.state(s, 10)
			if j%3 == 0 {
				x.Equations = nil
			}
			y, e := state.Bind(s, x, b)
			if e != api.OK {
				continue
			}
			vars := varsOf(y)
			if slices.Contains(vars, b.Var) {
				t.Fatalf("%s in %s: it still stands in %s", toldBind(b), told(x), told(y))
			}
			before := slices.Concat(varsOf(x), terms.Vars(b.T))
			for _, name := range vars {
				if !slices.Contains(before, name) {
					t.Fatalf("%s in %s: %s is new in %s", toldBind(b), told(x), name, told(y))
				}
			}
			if bound := append(boundBy(x), b.Var); len(y.Binds) != len(bound) || y.Fresh != x.Fresh {
				t.Fatalf("%s in %s: %s", toldBind(b), told(x), told(y))
			}
			if no, at := subst.Check(s, y.Binds); no != api.OK {
				t.Fatalf("%s in %s: no substitution is bound: %d at %d", toldBind(b), told(x), no, at)
			}
			if state.Solved(x) != state.Solved(y) {
				t.Fatalf("%s in %s: %s", toldBind(b), told(x), told(y))
			}
			if state.Solved(y) {
				solved++
			}
			if slices.Contains(varsOf(x), b.Var) {
				met++
			}
		}
	}
	if solved < 800 || met < 1500 {
		t.Errorf("%d were solved, in %d the variable stood", solved, met)
	}
}

// TestP152AgainAndAgain: variables that are bound one behind the other stay gone.
func TestP152AgainAndAgain(t *testing.T) {
	m := newMaker(380)
	met := 0
	for range 500 {
		x := api.State{}
		for range 3 {
			x.Equations = append(x.Equations, eq(m.canonical(plain(), 8), m.canonical(plain(), 8)))
		}
		for range 6 {
			free := varsOf(x)
			if len(free) == 0 {
				break
			}
			name := free[m.Intn(len(free))]
			other := free[m.Intn(len(free))]
			t1 := []api.Term{sy(a), v(other), sy(g, v(other)), sy(plus, v(other), sy(a)), sy(f, v(other), v(other))}[m.Intn(5)]
			y, e := state.Bind(plain(), x, bind(name, t1))
			if e != api.OK {
				continue
			}
			x = y
			for _, b := range x.Binds {
				if slices.Contains(varsOf(x), b.Var) {
					t.Fatalf("%s still stands in %s", b.Var, told(x))
				}
			}
			met++
		}
	}
	if met < 1500 {
		t.Errorf("only %d binds", met)
	}
}

// substitutions are all that give each of some variables one of these terms; a variable stands for itself where it is its own.
func substitutions(values []api.Term, vars ...string) [][]api.Bind {
	all := [][]api.Bind{nil}
	for _, name := range vars {
		var longer [][]api.Bind
		for _, b := range all {
			for _, x := range values {
				c := append([]api.Bind{}, b...)
				if x.Var != name {
					c = append(c, bind(name, x))
				}
				longer = append(longer, c)
			}
		}
		all = longer
	}
	return all
}

// holds: does a substitution make all sides equal?
func holds(t *testing.T, s api.Signature, u []api.Bind, x api.State) bool {
	t.Helper()
	for _, q := range x.Equations {
		l, e := subst.Apply(s, u, q.L)
		r, no := subst.Apply(s, u, q.R)
		if e != api.OK || no != api.OK {
			t.Fatalf("%d, %d", e, no)
		}
		if !canon.Equal(s, l, r) {
			return false
		}
	}
	return true
}

// small makes a small state of X, Y and Z, so small that some substitutions solve it.
func (m maker) small(s api.Signature) api.State {
	one := func() api.Term {
		t := m.right(s, 1+m.Intn(5))
		for i, name := range varNames() {
			t = with(name, v([]string{"X", "Y", "Z"}[i%3]), t)
		}
		return canon.Canon(s, t)
	}
	x := api.State{Binds: []api.Bind{bind("V", one())}}
	for range 1 + m.Intn(2) {
		x.Equations = append(x.Equations, eq(one(), one()))
	}
	return x
}

// P15.3 (the same answers): with substitutions that make the bind's sides equal, and, so that it is seen that others may tell both apart, with all.
func TestP153(t *testing.T) {
	y, z := v("Y"), v("Z")
	values := []api.Term{y, z, sy(a), sy(one), sy(g, y), sy(plus, z, sy(a)), sy(plus, sy(a), sy(a)), sy(f, y, sy(a))}
	of := substitutions(values, "Y", "Z")
	for i, s := range []api.Signature{plain(), example()} {
		m := newMaker(int64(390 + i))
		yes, no, apart := 0, 0, 0
		for range 1500 {
			x := m.small(s)
			set := bind("X", []api.Term{y, z, sy(a), sy(one), sy(g, z), sy(plus, y, z), sy(plus, y, sy(a)), sy(f, z, y), sy(times, y, y)}[m.Intn(9)])
			w, e := state.Bind(s, x, set)
			if e != api.OK {
				t.Fatal(e)
			}
			for _, u := range of {
				own, _ := subst.Apply(s, u, set.T)
				solves := slices.Clone(u)
				if own.Var != set.Var {
					solves = slices.Insert(solves, 0, bind(set.Var, own))
				}
				before := holds(t, s, solves, x)
				if before != holds(t, s, solves, w) {
					t.Fatalf("%s in %s with %s: %v before", toldBind(set), told(x), told(api.State{Binds: solves}), before)
				}
				if before {
					yes++
				} else {
					no++
				}
				other := slices.Insert(slices.Clone(u), 0, bind(set.Var, sy(b)))
				if holds(t, s, other, x) != holds(t, s, other, w) {
					apart++
				}
			}
		}
		if yes < 2000 || no < 2000 || apart < 500 {
			t.Errorf("signature %d: %d held, %d did not; %d were told apart by others", i, yes, no, apart)
		}
	}
}

// TestP153OfSolved: what solves a state without equations solves it behind Bind, too: each does.
func TestP153OfSolved(t *testing.T) {
	x := read(t, "", "V -> f(X,Y)", 0)
	y, e := state.Bind(plain(), x, bind("X", sy(a)))
	if e != api.OK || !state.Solved(y) {
		t.Errorf("%d, %s", e, told(y))
	}
	wantState(t, "solved", y, read(t, "", "V -> f(a,Y), X -> a", 0))
}
