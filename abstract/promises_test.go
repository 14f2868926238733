package abstract_test

import (
	"testing"

	"amalgam/abstract"
	"amalgam/api"
	"amalgam/canon"
	"amalgam/sig"
	"amalgam/subst"
)

// sumsOf are all sums of a symbol of some rising terms, each up to so often, of at most so many arguments.
func sumsOf(s api.Signature, sym, often, most int, of ...api.Term) []api.Term {
	var l []api.Term
	for _, side := range sides(often, of...) {
		all := repeated(side)
		if len(all) > 1 && len(all) <= most {
			x, _ := canon.Join(s, sym, all)
			l = append(l, x)
		}
	}
	return l
}

// bindsOf are all substitutions that give X and Y these terms; a variable stands for itself where it is its own.
func bindsOf(l []api.Term) [][]api.Bind {
	var all [][]api.Bind
	for _, x := range l {
		for _, y := range l {
			var b []api.Bind
			if x.Var != "X" {
				b = append(b, api.Bind{Var: "X", T: x})
			}
			if y.Var != "Y" {
				b = append(b, api.Bind{Var: "Y", T: y})
			}
			all = append(all, b)
		}
	}
	return all
}

// forms tells of terms, each asked once, what they are with each of some substitutions.
type forms struct {
	s     api.Signature
	binds [][]api.Bind
	known map[string][]string
}

func (f forms) of(t *testing.T, x api.Term) []string {
	t.Helper()
	if l, ok := f.known[written(x)]; ok {
		return l
	}
	l := make([]string, len(f.binds))
	for i, b := range f.binds {
		y, e := subst.Apply(f.s, b, x)
		if e != api.OK {
			t.Fatalf("%s with %v: %d", written(x), b, e)
		}
		l[i] = written(y)
	}
	f.known[written(x)] = l
	return l
}

// said are the two terms that Pure's answer wants to be equal: of Done the same one twice, of Fail two that never are.
func said(t *testing.T, s api.Signature, sym int, x api.Sum) (api.Term, api.Term) {
	t.Helper()
	switch x.Act {
	case api.Done:
		return sy(a), sy(a)
	case api.Fail:
		return sy(a), sy(b)
	case api.Parts:
		if len(x.L) != 1 {
			t.Fatalf("%d equations", len(x.L))
		}
		return x.L[0].L, x.L[0].R
	case api.Pure:
		l, ok := canon.Join(s, sym, repeated(x.Left))
		r, right := canon.Join(s, sym, repeated(x.Right))
		if ok && right {
			return l, r
		}
	}
	t.Fatalf("no answer: %s", toldSum(x))
	return api.Term{}, api.Term{}
}

// wantNothingLost holds the equations of all these terms against what becomes of them, with each substitution; it tells of each act how often it was so that the sides were not equal, and that they were.
func wantNothingLost(t *testing.T, f forms, sym int, sums []api.Term) map[api.Act][2]int {
	t.Helper()
	seen := map[api.Act][2]int{}
	for _, x := range sums {
		for _, y := range sums {
			sum, e := abstract.Pure(f.s, sym, api.Equation{L: x, R: y})
			if e == api.ErrTooMany {
				continue
			}
			if e != api.OK {
				t.Fatalf("%s = %s: %d", written(x), written(y), e)
			}
			p, q := said(t, f.s, sym, sum)
			left, right, one, other := f.of(t, x), f.of(t, y), f.of(t, p), f.of(t, q)
			n := seen[sum.Act]
			for i := range f.binds {
				equal := left[i] == right[i]
				if equal != (one[i] == other[i]) {
					t.Fatalf("%s = %s with %v: %v; it became %s", written(x), written(y), f.binds[i], equal, toldSum(sum))
				}
				if equal {
					n[1]++
				} else {
					n[0]++
				}
			}
			seen[sum.Act] = n
		}
	}
	return seen
}

func wantMet(t *testing.T, seen map[api.Act][2]int, act api.Act, apart, equal int) {
	t.Helper()
	if n := seen[act]; n[0] < apart || n[1] < equal || apart == 0 && n[0] > 0 || equal == 0 && n[1] > 0 {
		t.Errorf("act %d: the sides were not equal %d times, equal %d times", act, n[0], n[1])
	}
}

// P12.2 (nothing is lost), of an AC symbol.
func TestP122(t *testing.T) {
	s := example()
	x, y := v("X"), v("Y")
	values := []api.Term{x, y, v("Z"), sy(a), sy(b), sy(f, x, sy(a)), sy(plus, x, sy(a)), sy(plus, x, y), sy(plus, sy(a), sy(a)), sy(plus, v("Z"), sy(a), sy(b)), sy(times, x, y)}
	f := forms{s: s, binds: bindsOf(values), known: map[string][]string{}}
	sums := sumsOf(s, plus, 2, 4, x, y, sy(a), sy(2, x, sy(a)), sy(2, y, sy(a)), sy(b))
	seen := wantNothingLost(t, f, plus, sums)
	wantMet(t, seen, api.Done, 0, 1000)
	wantMet(t, seen, api.Fail, 1000, 0)
	wantMet(t, seen, api.Parts, 1000, 1000)
	wantMet(t, seen, api.Pure, 1000, 1000)
}

// P12.2, modulo associativity and commutativity: by the plain signature, in which the unit is a constant; also beneath another AC symbol.
func TestP122ByThePlainSignature(t *testing.T) {
	s := sig.Plain(example())
	x, y := v("X"), v("Y")
	values := []api.Term{x, y, v("Z"), sy(a), sy(one), sy(times, x, sy(one)), sy(times, sy(one), sy(one)), sy(times, x, y), sy(plus, x, sy(a)), sy(times, v("Z"), sy(a))}
	f := forms{s: s, binds: bindsOf(values), known: map[string][]string{}}
	sums := sumsOf(s, times, 3, 4, x, y, sy(one), sy(plus, x, sy(a)), sy(plus, y, sy(a)))
	seen := wantNothingLost(t, f, times, sums)
	wantMet(t, seen, api.Done, 0, 1000)
	wantMet(t, seen, api.Fail, 1000, 0)
	wantMet(t, seen, api.Parts, 1000, 1000)
	wantMet(t, seen, api.Pure, 1000, 1000)
}

// TestUnknownsAndCancelMakeTheSides: the calls say the same: Pure's sides are what Cancel leaves of Unknowns, and Counts and Wants tell them.
func TestUnknownsAndCancelMakeTheSides(t *testing.T) {
	s := example()
	for _, line := range []string{"plus(X,X,a) = plus(X,Y,b)", "plus(X,X,X,a) = plus(X,f(X,a),f(X,a))", "plus(A,B,C,D,E) = plus(a,a,a,a,a,a)"} {
		e := equation(t, line)
		sum, _ := abstract.Pure(s, plus, e)
		l, r := abstract.Cancel(abstract.Unknowns(s, plus, e.L), abstract.Unknowns(s, plus, e.R))
		if sum.Act != api.Pure || told(sum.Left) != told(l) || told(sum.Right) != told(r) {
			t.Errorf("%s: %s; %s and %s", line, toldSum(sum), told(l), told(r))
		}
		counts, wants := append(abstract.Counts(l), abstract.Counts(r)...), abstract.Wants(l, r)
		if len(counts) != len(wants) {
			t.Fatalf("%s: %v, %v", line, counts, wants)
		}
		for i, x := range append(l, r...) {
			if counts[i] != x.N || (wants[i] == api.WantOne) != x.Alien || (wants[i] == api.WantSome) == x.Alien {
				t.Errorf("%s: %v, %v", line, counts, wants)
			}
		}
	}
}
