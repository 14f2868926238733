package step_test

import (
	"math"
	"slices"
	"strconv"
	"testing"

	"amalgam/api"
	"amalgam/sig"
	"amalgam/step"
	"amalgam/terms"
)

func wantFree(t *testing.T, what string, s api.Signature, l []api.Equation, want []api.Bind) {
	t.Helper()
	got, ok, e := step.Free(s, l)
	if !ok || e != api.OK || writtenBinds(got) != writtenBinds(want) {
		t.Errorf("%s: %s, %v, %d; want %s", what, writtenBinds(got), ok, e, writtenBinds(want))
	}
}

func wantNone(t *testing.T, what string, s api.Signature, l []api.Equation, want api.Errno) {
	t.Helper()
	if got, ok, e := step.Free(s, l); len(got) > 0 || ok || e != want {
		t.Errorf("%s: %s, %v, %d; want none and %d", what, writtenBinds(got), ok, e, want)
	}
}

func TestFree(t *testing.T) {
	for _, c := range [][2]string{
		{"", ""},
		{"f(X,Y) = f(Y,a)", "X -> a, Y -> a"},
		{"f(X,a) = f(a,Y)", "X -> a, Y -> a"},
		{"X = X", ""},
		{"a = a", ""},
		{"f(X,g(a)) = f(X,g(a))", ""},
		{"X = a", "X -> a"},
		{"a = X", "X -> a"},
		{"X = Y", "Y -> X"},
		{"Y = X", "Y -> X"},
		{"_2 = _10", "_2 -> _10"},
		{"X = Y; Y = Z", "Y -> X, Z -> X"},
		{"Y = Z; X = Y", "Y -> X, Z -> X"},
		{"Z = Y; Y = X; X = W", "X -> W, Y -> W, Z -> W"},
		{"Y = X; Y = a", "X -> a, Y -> a"},
		{"a = a; X = a; b = b", "X -> a"},
		{"X = f(Y,Z); Y = a; Z = g(Y)", "X -> f(a,g(a)), Y -> a, Z -> g(a)"},
		{"Z = g(Y); Y = a; X = f(Y,Z)", "X -> f(a,g(a)), Y -> a, Z -> g(a)"},
		{"X = g(Y); Y = g(Z); Z = W", "X -> g(g(W)), Y -> g(W), Z -> W"},
		{"f(X,X) = f(g(Y),g(a))", "X -> g(a), Y -> a"},
		{"h(X,Y,Z) = h(g(Y),g(Z),a)", "X -> g(g(a)), Y -> g(a), Z -> a"},
		{"k(X,Y,Z,W) = k(a,b,X,Y)", "W -> b, X -> a, Y -> b, Z -> a"},
		{"X = f(Y,Y); X = f(Z,a)", "X -> f(a,a), Y -> a, Z -> a"},
		{"f(f(X,Y),Z) = f(Z,f(a,b))", "X -> a, Y -> b, Z -> f(a,b)"},
		{"X10 = a; X2 = b; X = one; _1 = a", "X -> one, X10 -> a, X2 -> b, _1 -> a"},
	} {
		wantFree(t, c[0], example(), equations(t, c[0]), binds(t, c[1]))
	}
	wantFree(t, "nil", nil, nil, nil)
	wantFree(t, "an empty list", example(), []api.Equation{}, nil)
}

func TestFreeFails(t *testing.T) {
	for _, line := range []string{
		"a = b", "a = f(X,X)", "g(X) = f(X,X)", "X = g(X)", "g(X) = X", "X = f(a,g(g(X)))",
		"f(X,X) = f(a,b)", "f(a,X) = f(b,X)", "f(X,a) = f(X,b)", "f(X,Y) = f(g(Y),g(X))",
		"a = a; b = b; a = b", "X = a; X = b", "X = a; Y = b; X = Y", "X = Y; Y = g(X)", "X = g(Y); Y = g(Z); Z = g(X)",
		"a = b; X = a", "X = a; a = b; Y = a", "h(X,Y,Z) = h(a,X,b); Z = Y", "X = f(Y,Z); Z = X",
	} {
		wantNone(t, line, example(), equations(t, line), api.OK)
	}
}

// TestFreeTakesItsOrder: which variable is bound to which term hangs on which equation is first.
func TestFreeTakesItsOrder(t *testing.T) {
	for _, c := range [][2]string{
		{"X = f(Y,a); X = f(Z,a)", "X -> f(Y,a), Z -> Y"},
		{"X = f(Z,a); X = f(Y,a)", "X -> f(Y,a), Z -> Y"},
		{"f(X,W) = f(Y,Z); X = Z", "X -> W, Y -> W, Z -> W"},
		{"f(f(A,B),C) = f(f(D,E),B); E = D", "B -> A, C -> A, D -> A, E -> A"},
		{"X = f(Y,Z); X = f(g(W),V)", "X -> f(g(W),V), Y -> g(W), Z -> V"},
	} {
		wantFree(t, c[0], example(), equations(t, c[0]), binds(t, c[1]))
	}
	long := tower(g, 401, sy(a))
	// Parts stand in the equation's place, ahead of what stands behind it.
	wantNone(t, "a part that fails ahead of a bind that lets grow", example(), []api.Equation{eq(sy(f, sy(a), v("X")), sy(f, sy(b), v("Y"))), eq(v("Z"), long)}, api.OK)
	wantNone(t, "a bind that lets grow ahead of a part that fails", example(), []api.Equation{eq(sy(f, v("X"), sy(a)), sy(f, v("Y"), sy(b))), eq(v("Z"), long)}, api.ErrSubstGrown)
}

// wrongSymbols are terms of which one symbol is not that of a free symbol's place.
func wrongSymbols() []api.Term {
	x := v("X")
	return []api.Term{sy(-1), sy(math.MinInt), sy(9), sy(10), sy(math.MaxInt), sy(plus, x, x), sy(times, x, x), sy(plus), sy(times), sy(9, x), sy(-1, x, x)}
}

// TestFreeErrArg: on either side, deep in it, in any of the equations, and ahead of all that the equations would say.
func TestFreeErrArg(t *testing.T) {
	s := example()
	fine := eq(sy(f, v("X"), sy(a)), sy(f, v("Y"), sy(a)))
	failing := eq(sy(a), sy(b))
	long := eq(tower(g, 401, sy(a)), tower(g, 401, sy(a)))
	for _, x := range wrongSymbols() {
		for _, y := range []api.Term{x, sy(g, x), sy(f, sy(a), x), sy(f, x, sy(a)), sy(h, sy(a), sy(g, sy(f, v("X"), sy(g, x))), sy(b))} {
			for _, e := range []api.Equation{eq(y, v("X")), eq(v("X"), y), eq(y, sy(b)), eq(sy(b), y), eq(y, y)} {
				what := writtenEquations([]api.Equation{e})
				wantNone(t, what, s, []api.Equation{e}, api.ErrArg)
				wantNone(t, what+" behind", s, []api.Equation{fine, fine, e}, api.ErrArg)
				wantNone(t, what+" ahead", s, []api.Equation{e, fine}, api.ErrArg)
				wantNone(t, what+" behind one that fails", s, []api.Equation{failing, e}, api.ErrArg)
				wantNone(t, what+" behind a bind that lets grow", s, []api.Equation{eq(v("X"), sy(a)), long, e}, api.ErrArg)
			}
		}
	}
	wantNone(t, "no signature", nil, []api.Equation{eq(sy(0), sy(0))}, api.ErrArg)
	wantNone(t, "the place behind the last one", freeFirst(), []api.Equation{eq(v("X"), sy(3))}, api.ErrArg)
	wantFree(t, "the last place", freeFirst(), []api.Equation{eq(v("X"), sy(2, v("Y")))}, []api.Bind{bind("X", sy(2, v("Y")))})
	wantFree(t, "variables by no signature", nil, []api.Equation{eq(v("X"), v("Y")), eq(v("Z"), v("Y"))}, []api.Bind{bind("Y", v("X")), bind("Z", v("X"))})
	wantNone(t, "an AC symbol at the place 0", sumFirst(), []api.Equation{eq(v("X"), sy(0, v("Y"), v("Y")))}, api.ErrArg)
	wantFree(t, "variables where an AC symbol is at the place 0", sumFirst(), []api.Equation{eq(v("X"), v("Y"))}, []api.Bind{bind("Y", v("X"))})
}

// TestFreeByAnySignature: "s may be any signature", and l any equations: names, arities and numbers of arguments do not count.
func TestFreeByAnySignature(t *testing.T) {
	odd := api.Signature{{}, {Kind: api.Free, Arity: -7, Unit: "x"}, {Name: "F", Kind: api.Free, Arity: 99}, {Name: "F", Kind: api.Free}, {Name: "no", Kind: 4}, {Name: "no", Kind: -1}, {Name: "no", Kind: api.AC, Arity: 1}, {Name: "F", Kind: api.ACU}}
	if e, _ := sig.Check(odd); e == api.OK {
		t.Fatal("the signature is right")
	}
	x, y, z := v("x"), v("Y long, of no kind"), v("é")
	for _, sym := range []int{1, 2, 3} {
		wantFree(t, "any number of arguments", odd, []api.Equation{eq(sy(sym, x, y, sy(3), x, y), sy(sym, y, z, z, sy(3), sy(3)))}, []api.Bind{bind(y.Var, sy(3)), bind(x.Var, sy(3)), bind(z.Var, sy(3))})
		wantFree(t, "no arguments", odd, []api.Equation{eq(sy(sym), sy(sym)), eq(x, sy(sym))}, []api.Bind{bind(x.Var, sy(sym))})
		wantNone(t, "unlike numbers of arguments", odd, []api.Equation{eq(sy(sym, x), sy(sym, x, x))}, api.OK)
		wantNone(t, "unlike numbers of arguments", odd, []api.Equation{eq(x, y), eq(sy(sym, x), sy(sym))}, api.OK)
	}
	for _, sym := range []int{0, 4, 5, 6, 7, 8} {
		wantNone(t, "a kind that is not free", odd, []api.Equation{eq(x, sy(sym, y, y))}, api.ErrArg)
	}
	many := slices.Repeat(example(), 50)
	wantFree(t, "a long signature", many, []api.Equation{eq(x, sy(9*49+f, y, sy(9*3)))}, []api.Bind{bind(x.Var, sy(9*49+f, y, sy(9*3)))})
	wantNone(t, "symbols with one name at two places", many, []api.Equation{eq(sy(a), sy(9+a))}, api.OK)
}

// TestFreeNodesOfTheOthers: just MaxGrown nodes, and one more, among the sides of the other equations, where the variable is put in and where it does not stand.
func TestFreeNodesOfTheOthers(t *testing.T) {
	s := example()
	x, y, z := v("X"), v("Y"), v("Z")
	up := func(n int, leaf api.Term) api.Term { return tower(g, n, leaf) }
	for _, n := range []int{1, 2, 200, 399, 400, 401, 402, 900} {
		for what, l := range map[string][]api.Equation{
			"not there, left":        {eq(x, sy(a)), eq(up(n, sy(a)), y)},
			"not there, right":       {eq(x, sy(a)), eq(y, up(n, sy(a)))},
			"not there, both":        {eq(x, sy(a)), eq(up(n, z), up(n, sy(a)))},
			"not there, far behind":  {eq(x, sy(a)), eq(sy(a), sy(a)), eq(sy(b), sy(b)), eq(y, up(n, sy(b)))},
			"put in, left":           {eq(x, up(n-n/2, sy(a))), eq(up(n/2+1, x), y)},
			"put in, right":          {eq(x, up(n-n/2, sy(a))), eq(y, up(n/2+1, x))},
			"put in by the right":    {eq(up(n-n/2, sy(a)), x), eq(y, up(n/2+1, x))},
			"a variable put in":      {eq(x, y), eq(z, up(n, y))},
			"twice there":            {eq(x, up(max(n/2, 1), sy(a))), eq(y, sy(f, x, x))},
			"out of parts":           {eq(sy(f, x, y), sy(f, sy(g, sy(a)), up(n-1, x)))},
			"fails behind":           {eq(x, sy(a)), eq(up(n, sy(a)), sy(b))},
			"the same on both sides": {eq(x, sy(a)), eq(up(n, sy(a)), up(n, sy(a)))},
		} {
			want, ok, e := freely(s, l)
			if (e == api.ErrSubstGrown) != (n > 400 || n == 400 && what == "twice there") {
				t.Fatalf("%s of %d: %d", what, n, e)
			}
			if ok {
				wantFree(t, what+" of "+strconv.Itoa(n), s, l, want)
			} else {
				wantNone(t, what+" of "+strconv.Itoa(n), s, l, e)
			}
		}
	}
}

// TestFreeNodesOfTheBound: the same among the bound terms; the bind that is set is none of them yet.
func TestFreeNodesOfTheBound(t *testing.T) {
	s := example()
	x, y, z := v("X"), v("Y"), v("Z")
	up := func(n int, leaf api.Term) api.Term { return tower(g, n, leaf) }
	for _, n := range []int{2, 200, 399, 400, 401, 402, 900} {
		for what, l := range map[string][]api.Equation{
			"not there":         {eq(x, up(n, sy(a))), eq(y, sy(a))},
			"put in":            {eq(x, up(n-1, y)), eq(y, sy(g, sy(a)))},
			"a variable put in": {eq(x, up(n, z)), eq(z, y)},
			"of parts":          {eq(sy(f, x, y), sy(f, up(n-1, y), sy(g, z)))},
		} {
			want, ok, e := freely(s, l)
			if (e == api.ErrSubstGrown) != (n > 400) || ok == (n > 400) {
				t.Fatalf("%s of %d: %d", what, n, e)
			}
			if ok {
				wantFree(t, what+" of "+strconv.Itoa(n), s, l, want)
			} else {
				wantNone(t, what+" of "+strconv.Itoa(n), s, l, e)
			}
		}
		deep := up(n, sy(a))
		wantFree(t, "its own bind", s, []api.Equation{eq(x, deep)}, []api.Bind{bind("X", deep)})
		wantFree(t, "its own bind, behind what is done", s, []api.Equation{eq(deep, deep), eq(deep, x), eq(sy(a), sy(a))}, []api.Bind{bind("X", deep)})
		wantFree(t, "nothing is set", s, []api.Equation{eq(deep, deep)}, nil)
		wantFree(t, "ahead of the bind", s, []api.Equation{eq(deep, deep), eq(x, y)}, []api.Bind{bind("Y", x)})
		wantNone(t, "its own bind, and one that fails", s, []api.Equation{eq(x, deep), eq(sy(a), sy(b))}, api.OK)
	}
}

// TestFreeDoubles: each variable has twice the nodes of the one ahead, and one more: 1, 3, 7, .., 255, 511.
func TestFreeDoubles(t *testing.T) {
	s := example()
	name := func(i int) api.Term { return v("X" + strconv.Itoa(i)) }
	for many := range 12 {
		var up, down []api.Equation
		for i := range many {
			up = append(up, eq(name(i+1), sy(f, name(i), name(i))))
			down = append([]api.Equation{eq(sy(f, name(i), name(i)), name(i+1))}, down...)
		}
		l, r := sy(a), sy(a)
		for i := range many {
			l, r = sy(f, l, name(i+1)), sy(f, r, sy(f, name(i), name(i)))
		}
		alone := []api.Equation{eq(l, r)}
		for what, list := range map[string][]api.Equation{"rising": up, "falling": down, "of one equation": alone} {
			want, ok, e := freely(s, list)
			if ok != (many < 8) || (e == api.ErrSubstGrown) == ok {
				t.Fatalf("%s, %d: %v, %d", what, many, ok, e)
			}
			if !ok {
				wantNone(t, what+" "+strconv.Itoa(many), s, list, api.ErrSubstGrown)
				continue
			}
			wantFree(t, what+" "+strconv.Itoa(many), s, list, want)
			if many > 0 && terms.Size(want[many-1].T) != 1<<(many+1)-1 {
				t.Fatalf("%s, %d: %d nodes", what, many, terms.Size(want[many-1].T))
			}
		}
	}
}

// TestFreeOfAllSmallEquations: every two small terms, and every two of some equations, held against the words said again.
func TestFreeOfAllSmallEquations(t *testing.T) {
	s := freeFirst()
	l := smallTerms(s, 4, "X", "Y")
	var all []api.Equation
	for i, x := range l {
		for j, y := range l {
			wantSaidAgain(t, s, []api.Equation{eq(x, y)})
			if (i*len(l)+j)%53 == 0 {
				all = append(all, eq(x, y))
			}
		}
	}
	for _, x := range all {
		for _, y := range all {
			wantSaidAgain(t, s, []api.Equation{x, y})
		}
	}
}

// wantSaidAgain tells what the answer was.
func wantSaidAgain(t *testing.T, s api.Signature, l []api.Equation) (bool, api.Errno) {
	t.Helper()
	want, ok, e := freely(s, l)
	got, ok2, e2 := step.Free(s, l)
	if ok != ok2 || e != e2 || writtenBinds(got) != writtenBinds(want) {
		t.Fatalf("%s: %s, %v, %d; want %s, %v, %d", writtenEquations(l), writtenBinds(got), ok2, e2, writtenBinds(want), ok, e)
	}
	return ok, e
}

func TestFreeOfManyEquations(t *testing.T) {
	for i, s := range []api.Signature{freeFirst(), example()[:3], example()} {
		m := newMaker(int64(160 + i))
		answered, failed, grown := 0, 0, 0
		for range 3000 {
			var l []api.Equation
			for range m.Intn(6) {
				x := m.right(s, 1+m.Intn(12))
				y := m.changed(s, x)
				if m.Intn(3) == 0 {
					x = v(varNames()[m.Intn(len(varNames()))])
				}
				l = append(l, eq(x, y))
			}
			ok, e := wantSaidAgain(t, s, l)
			switch {
			case ok:
				answered++
			case e == api.OK:
				failed++
			case e == api.ErrSubstGrown:
				grown++
			}
		}
		if answered < 200 || failed < 200 {
			t.Errorf("signature %d: %d were answered, %d failed, %d grew", i, answered, failed, grown)
		}
	}
}
