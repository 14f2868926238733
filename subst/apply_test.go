package subst_test

import (
	"slices"
	"testing"

	"amalgam/api"
	"amalgam/canon"
	"amalgam/subst"
	"amalgam/terms"
	"amalgam/text"
)

func wantApply(t *testing.T, what string, s api.Signature, b []api.Bind, x, want api.Term) {
	t.Helper()
	got, e := subst.Apply(s, b, x)
	if e != api.OK {
		t.Errorf("%s: %d", what, e)
	}
	wantTerm(t, what, got, want)
}

func wantGrown(t *testing.T, what string, b []api.Bind, x api.Term) {
	t.Helper()
	if got, e := subst.Apply(exampleSignature(), b, x); e != api.ErrSubstGrown || !isZero(got) {
		t.Errorf("%s: %d, %d nodes; want it refused", what, e, terms.Size(got))
	}
}

func TestApplyExamples(t *testing.T) {
	s := exampleSignature()
	for _, c := range [][3]string{
		{"X -> plus(Y,a)", "plus(X,X)", "plus(Y,Y,a,a)"},
		{"", "plus(a,X)", "plus(X,a)"},
		{"", "X", "X"},
		{"", "times(one,times(X,one))", "X"},
		{"Y -> a", "X", "X"},
		{"Y -> a", "f(X,Z)", "f(X,Z)"},
		{"X -> a", "X", "a"},
		{"X -> Y, Y -> X", "f(X,Y)", "f(Y,X)"},
		{"X -> f(X,X)", "f(X,X)", "f(f(X,X),f(X,X))"},
		{"X -> f(Y,Z), Y -> X, Z -> Y", "f(f(X,Y),Z)", "f(f(f(Y,Z),X),Y)"},
		{"X -> plus(X,Y), Y -> plus(X,X)", "plus(X,Y,Z)", "plus(X,X,X,Y,Z)"},
		{"X -> plus(Y,a)", "times(X,X)", "times(plus(Y,a),plus(Y,a))"},
		{"X -> plus(Y,a)", "f(X,X)", "f(plus(Y,a),plus(Y,a))"},
		{"X -> one", "times(X,a)", "a"},
		{"X -> one", "times(X,X)", "one"},
		{"X -> one", "plus(X,X)", "plus(one,one)"},
		{"X -> one, Y -> plus(a,a)", "plus(a,times(X,Y))", "plus(a,a,a)"},
		{"X -> times(Y,a), Y -> one", "times(X,Y,one)", "times(Y,a)"},
		{"X -> _2, Y -> _10", "plus(X,Y)", "plus(_10,_2)"},
	} {
		got, e := subst.Apply(s, bs(t, c[0]), tm(t, c[1]))
		if e != api.OK || text.Show(s, got) != c[2] {
			t.Errorf("Apply of %s to %s: %s, %d; want %s", c[0], c[1], text.Show(s, got), e, c[2])
		}
	}
}

// TestApplyOfBindsThatAreNone: a symbol is no variable, though binds that are no substitution bind the empty name.
func TestApplyOfBindsThatAreNone(t *testing.T) {
	s := exampleSignature()
	b := []api.Bind{bind("", row(500)), bind("X", v("X")), bind("x", sy(a))}
	wantApply(t, "the empty name", s, b, tm(t, "f(a,X)"), tm(t, "f(a,X)"))
	wantApply(t, "a name that is none", s, b, v("x"), sy(a))
}

// TestApplyNodes: just MaxGrown nodes, and one more; they are counted ahead of what the canonical form drops.
func TestApplyNodes(t *testing.T) {
	s := exampleSignature()
	x := v("X")
	wantApply(t, "no binds, 400", s, nil, row(400), row(400))
	wantGrown(t, "no binds, 401", nil, row(401))
	wantApply(t, "a variable, 400", s, []api.Bind{bind("X", row(400))}, x, row(400))
	wantGrown(t, "a variable, 401", []api.Bind{bind("X", row(401))}, x)
	wantApply(t, "f, 200 and 199", s, []api.Bind{bind("X", row(200)), bind("Y", row(199))}, sy(f, x, v("Y")), sy(f, row(200), row(199)))
	wantGrown(t, "f, 200 and 200", []api.Bind{bind("X", row(200)), bind("Y", row(200))}, sy(f, x, v("Y")))
	wantApply(t, "f, 199 twice", s, []api.Bind{bind("X", row(199))}, sy(f, x, x), sy(f, row(199), row(199)))
	wantGrown(t, "f, 200 twice", []api.Bind{bind("X", row(200))}, sy(f, x, x))
	// A sum in a sum loses its own node, but only when it is made canonical.
	wantApply(t, "plus, 200 and 199", s, []api.Bind{bind("X", row(200)), bind("Y", row(199))}, sy(plus, x, v("Y")), row(398))
	wantGrown(t, "plus, 200 and 200", []api.Bind{bind("X", row(200)), bind("Y", row(200))}, sy(plus, x, v("Y")))
	units := func(n int) api.Term { return sy(times, slices.Repeat([]api.Term{sy(one)}, n-1)...) }
	wantApply(t, "400 nodes, units", s, nil, units(400), sy(one))
	wantGrown(t, "401 nodes, units", nil, units(401))
	ones := func(n int) api.Term { return sy(times, slices.Repeat([]api.Term{x}, n-1)...) }
	wantApply(t, "400 nodes, units put in", s, bs(t, "X -> one"), ones(400), sy(one))
	wantGrown(t, "401 nodes, units put in", bs(t, "X -> one"), ones(401))
	wantApply(t, "a bind that is not used", s, []api.Bind{bind("Y", row(400))}, ones(400), ones(400))
	wantGrown(t, "a great term, great binds", []api.Bind{bind("X", row(100000))}, ones(100000))
	wantApply(t, "399 variables and a", s, bs(t, "X -> f(a,a)"), sy(plus, slices.Repeat([]api.Term{x}, 133)...), sy(plus, slices.Repeat([]api.Term{sy(f, sy(a), sy(a))}, 133)...))
	wantGrown(t, "3 times 133 nodes and 2 more", bs(t, "X -> f(a,a)"), sy(plus, append(slices.Repeat([]api.Term{x}, 133), sy(a))...))
}

// applied says Apply's words again: place by place, from the last one on, so that the places ahead stay where they are; canonical at the end.
func applied(s api.Signature, b []api.Bind, x api.Term) (api.Term, bool) {
	y := terms.Clone(x)
	type place struct {
		path []int
		t    api.Term
	}
	var l []place
	for path, z := range terms.All(x) {
		for _, c := range b {
			if c.Var == z.Var {
				l = append(l, place{path, c.T})
			}
		}
	}
	slices.Reverse(l)
	for _, p := range l {
		y, _ = terms.Put(y, p.path, p.t)
	}
	if terms.Size(y) > 400 {
		return api.Term{}, false
	}
	return canon.Canon(s, y), true
}

func wantApplied(t *testing.T, s api.Signature, b []api.Bind, x api.Term) bool {
	t.Helper()
	want, ok := applied(s, b, x)
	got, e := subst.Apply(s, b, x)
	if (e == api.OK) != ok || !ok && e != api.ErrSubstGrown || written(got) != written(want) {
		t.Fatalf("Apply of %s to %s: %s, %d; want %s, %v", writtenBinds(b), written(x), written(got), e, written(want), ok)
	}
	return ok
}

func TestApplyToMany(t *testing.T) {
	for _, s := range signatures() {
		m := newMaker(17)
		grown := 0
		for i := range 3000 {
			b, x := m.substitution(s, 12), m.right(s, 20)
			if i%4 == 0 {
				b, x = m.wideSubstitution(s, 120), m.wide(s, 50)
			}
			if !wantApplied(t, s, b, x) {
				grown++
			}
		}
		if grown < 20 || grown > 1000 {
			t.Errorf("%d were refused", grown)
		}
	}
}

func TestApplyToAllSmallTerms(t *testing.T) {
	s := exampleSignature()
	l := smallTerms(s, 2, 3)
	for _, x := range smallTerms(s, 2, 4) {
		for i, y := range l {
			b := []api.Bind{bind("X", canon.Canon(s, y)), bind("Y", canon.Canon(s, l[(i*7+5)%len(l)]))}
			wantApplied(t, s, b, x)
			wantApplied(t, s, b[:1], x)
			wantApplied(t, s, b[1:], x)
		}
	}
}
