package step_test

import (
	"testing"

	"amalgam/api"
	"amalgam/canon"
	"amalgam/sig"
	"amalgam/step"
	"amalgam/subst"
	"amalgam/terms"
)

// substitutions are all that give each of some variables one of these terms; a variable stands for itself where it is its own.
func substitutions(values []api.Term, vars ...string) [][]api.Bind {
	all := [][]api.Bind{nil}
	for _, name := range vars {
		var longer [][]api.Bind
		for _, b := range all {
			for _, x := range values {
				c := append([]api.Bind{}, b...)
				if x.Var != name {
					c = append(c, bind(name, x))
				}
				longer = append(longer, c)
			}
		}
		all = longer
	}
	return all
}

// forms tells of terms, each asked once, what they are with each of some substitutions: the same number for terms that are equal modulo the signature's axioms.
type forms struct {
	s       api.Signature
	all     [][]api.Bind
	known   map[string][]int
	numbers map[string]int
}

func newForms(s api.Signature, all [][]api.Bind) forms {
	return forms{s: s, all: all, known: map[string][]int{}, numbers: map[string]int{}}
}

func (f forms) of(t *testing.T, x api.Term) []int {
	t.Helper()
	name := written(x)
	if l, ok := f.known[name]; ok {
		return l
	}
	l := make([]int, len(f.all))
	for i, b := range f.all {
		y, e := subst.Apply(f.s, b, x)
		if e != api.OK {
			t.Fatalf("%s with %s: %d", name, writtenBinds(b), e)
		}
		form := written(y)
		if _, ok := f.numbers[form]; !ok {
			f.numbers[form] = len(f.numbers)
		}
		l[i] = f.numbers[form]
	}
	f.known[name] = l
	return l
}

// wanted are the equations that a way wants to hold: none of Done, those of Parts, the bind of Set; one that never holds of Fail.
func wanted(t *testing.T, w api.Way) []api.Equation {
	t.Helper()
	switch w.Act {
	case api.Done:
		return nil
	case api.Fail:
		return []api.Equation{eq(sy(a), sy(one))}
	case api.Set:
		return []api.Equation{eq(v(w.Bind.Var), w.Bind.T)}
	case api.Parts:
		return w.L
	}
	t.Fatalf("no way: %s", writtenWay(w))
	return nil
}

// wantEachWayRight holds all equations of some canonical terms against what One says of them, with each substitution; it tells of each act how often the sides were not equal, and equal.
func wantEachWayRight(t *testing.T, s api.Signature, f forms, l []api.Term) map[api.Act][2]int {
	t.Helper()
	seen := map[api.Act][2]int{}
	for _, x := range l {
		for _, y := range l {
			w := step.One(s, eq(x, y))
			if w.Act == api.Pure {
				continue
			}
			parts := wanted(t, w)
			left, right, n := f.of(t, x), f.of(t, y), seen[w.Act]
			for i, b := range f.all {
				equal, all := left[i] == right[i], true
				for _, p := range parts {
					all = all && f.of(t, p.L)[i] == f.of(t, p.R)[i]
				}
				if equal != all {
					t.Fatalf("%s = %s with %s: %v; One says %s", written(x), written(y), writtenBinds(b), equal, writtenWay(w))
				}
				if equal {
					n[1]++
				} else {
					n[0]++
				}
			}
			seen[w.Act] = n
		}
	}
	return seen
}

// P13.1 (each way is right): what is equal is asked of canon by the plain signature, modulo associativity and commutativity.
func TestP131(t *testing.T) {
	s := example()[:7]
	x, y := v("X"), v("Y")
	values := []api.Term{x, y, v("Z"), sy(a), sy(one), sy(g, x), sy(f, y, sy(a)), sy(f, sy(a), sy(a)), sy(plus, x, sy(a)), sy(plus, sy(a), sy(a)), sy(times, y, sy(one)), sy(times, sy(a), sy(one))}
	f := newForms(sig.Plain(s), substitutions(values, "X", "Y"))
	seen := wantEachWayRight(t, s, f, append(smallCanonical(s, 3, "X", "Y"), term(t, "f(plus(X,a),Y)"), term(t, "f(Y,g(X))"), term(t, "f(g(X),plus(a,Y))"), term(t, "g(times(X,Y,one))"), term(t, "g(f(X,X))")))
	for act, most := range map[api.Act][2]bool{api.Done: {false, true}, api.Fail: {true, false}, api.Set: {true, true}, api.Parts: {true, true}} {
		for i, may := range most {
			if n := seen[act][i]; may && n < 200 || !may && n > 0 {
				t.Errorf("act %d: %v", act, seen[act])
			}
		}
	}
}

// TestP131OfPure: One says Pure just of two terms of one AC or ACU symbol that are not the same; so nothing is lost by it.
func TestP131OfPure(t *testing.T) {
	s := example()
	l := smallCanonical(s[:7], 4, "X", "Y")
	met := 0
	for _, x := range l {
		for _, y := range l {
			w := step.One(s, eq(x, y))
			sums := x.Var == "" && y.Var == "" && x.Sym == y.Sym && (x.Sym == plus || x.Sym == times) && !canon.Equal(sig.Plain(s), x, y)
			if (w.Act == api.Pure) != sums || sums && w.Sym != x.Sym {
				t.Fatalf("%s = %s: %s", written(x), written(y), writtenWay(w))
			}
			if sums {
				met++
			}
		}
	}
	if met < 500 {
		t.Errorf("only %d were pure", met)
	}
}

// wantMostGeneral holds Free's answer against what P13.2 says of it, with all of the substitutions; it tells whether there was an answer, and with how many the sides were the same.
func wantMostGeneral(t *testing.T, s api.Signature, f forms, l []api.Equation) (bool, int) {
	t.Helper()
	got, ok, e := step.Free(s, l)
	if e != api.OK {
		t.Fatalf("%s: %d", writtenEquations(l), e)
	}
	for _, x := range got {
		for _, y := range got {
			if terms.Has(x.T, y.Var) {
				t.Fatalf("%s: %s; %s stands in a bound term", writtenEquations(l), writtenBinds(got), y.Var)
			}
		}
	}
	if no, at := subst.Check(s, got); no != api.OK {
		t.Fatalf("%s: %s is no substitution: %d at %d", writtenEquations(l), writtenBinds(got), no, at)
	}
	for _, e := range l {
		x, _ := subst.Apply(s, got, e.L)
		y, _ := subst.Apply(s, got, e.R)
		if ok && written(x) != written(y) {
			t.Fatalf("%s: %s does not make the sides the same", writtenEquations(l), writtenBinds(got))
		}
	}
	same := 0
	for i, u := range f.all {
		if !holds(t, f, l, i) {
			continue
		}
		same++
		if !ok {
			t.Fatalf("%s: false; but %s makes the sides the same", writtenEquations(l), writtenBinds(u))
		}
		// No bound variable stands in a bound term: so, if anything makes u of what is bound, u itself does.
		for _, x := range got {
			if f.of(t, v(x.Var))[i] != f.of(t, x.T)[i] {
				t.Fatalf("%s: %s is no instance of %s", writtenEquations(l), writtenBinds(u), writtenBinds(got))
			}
		}
	}
	return ok, same
}

// holds: does one of the substitutions make all sides the same?
func holds(t *testing.T, f forms, l []api.Equation, i int) bool {
	t.Helper()
	for _, e := range l {
		if f.of(t, e.L)[i] != f.of(t, e.R)[i] {
			return false
		}
	}
	return true
}

// P13.2 (T7).
func TestP132(t *testing.T) {
	s := freeFirst()
	const p, c, q = 0, 1, 2
	x, y, z := v("X"), v("Y"), v("Z")
	values := []api.Term{x, y, z, v("W"), sy(c), sy(q, sy(c)), sy(q, x), sy(p, y, sy(c)), sy(p, sy(c), sy(c)), sy(q, sy(q, sy(c)))}
	f := newForms(s, substitutions(values, "X", "Y", "Z"))
	l := smallTerms(s, 3, "X", "Y", "Z")
	answered, failed, met := 0, 0, 0
	note := func(ok bool, same int) {
		met += same
		if ok {
			answered++
		} else {
			failed++
		}
	}
	for i, e := range l {
		for j, r := range l {
			note(wantMostGeneral(t, s, f, []api.Equation{eq(e, r)}))
			if (i+j)%5 == 0 {
				note(wantMostGeneral(t, s, f, []api.Equation{eq(e, r), eq(l[(3*i+j)%len(l)], l[(i+7*j)%len(l)])}))
				note(wantMostGeneral(t, s, f, []api.Equation{eq(r, l[(i*j)%len(l)]), eq(sy(p, e, y), sy(p, z, r)), eq(x, l[(i+j*j)%len(l)])}))
			}
		}
	}
	if answered < 300 || failed < 300 || met < 10000 {
		t.Errorf("%d were answered, %d failed, %d made the sides the same", answered, failed, met)
	}
}

// TestP132WhereThereIsOne: equations that a substitution is known to solve are answered, and it is an instance of the answer.
func TestP132WhereThereIsOne(t *testing.T) {
	s := freeFirst()
	m := newMaker(170)
	answered := 0
	for range 2000 {
		var u []api.Bind
		for _, name := range varNames() {
			// Terms without these variables, so that u makes of each term one that it leaves as it is.
			u = append(u, bind(name, with("X", v("V"), with("Y", v("W"), ground(m.right(s, 1+m.Intn(4)))))))
		}
		var l []api.Equation
		for range 1 + m.Intn(4) {
			x := m.right(s, 1+m.Intn(10))
			y, _ := subst.Apply(s, u, x)
			z := m.generalised(y, u)
			l = append(l, eq(x, z))
		}
		got, ok, e := step.Free(s, l)
		if !ok || e != api.OK {
			t.Fatalf("%s: %v, %d; but there is %s", writtenEquations(l), ok, e, writtenBinds(u))
		}
		for _, x := range got {
			one, _ := subst.Apply(s, u, v(x.Var))
			other, _ := subst.Apply(s, u, x.T)
			if written(one) != written(other) {
				t.Fatalf("%s: %s is no instance of %s", writtenEquations(l), writtenBinds(u), writtenBinds(got))
			}
		}
		if len(got) > 2 {
			answered++
		}
	}
	if answered < 500 {
		t.Errorf("only %d bound more than two", answered)
	}
}

// ground keeps of a term's variables X and Y alone.
func ground(t api.Term) api.Term {
	if t.Var != "" && t.Var != "X" {
		return v("Y")
	}
	var args []api.Term
	for _, x := range t.Args {
		args = append(args, ground(x))
	}
	t.Args = args
	return t
}

// generalised has, at some places of a term at which u's terms stand, the variables that u binds to them.
func (m maker) generalised(t api.Term, u []api.Bind) api.Term {
	for _, i := range m.Perm(len(u)) {
		if m.Intn(2) == 0 && written(u[i].T) == written(t) {
			return v(u[i].Var)
		}
	}
	var args []api.Term
	for _, x := range t.Args {
		args = append(args, m.generalised(x, u))
	}
	t.Args = args
	return t
}
