package state_test

import (
	"testing"

	"amalgam/api"
	"amalgam/canon"
	"amalgam/state"
)

// wantAgain holds Bind against the chapter's words said again, and tells which error it was.
func wantAgain(t *testing.T, s api.Signature, x api.State, b api.Bind) api.Errno {
	t.Helper()
	got, e := state.Bind(s, x, b)
	want, wanted := bindAgain(s, x, b)
	if e != wanted || told(got) != told(want) {
		t.Fatalf("Bind of %s in %s: %d, %s; want %d, %s", toldBind(b), told(x), e, told(got), wanted, told(want))
	}
	return e
}

func wantBound(t *testing.T, x api.State, line string, want api.State) {
	t.Helper()
	b := binds(t, line)[0]
	got, e := state.Bind(plain(), x, b)
	if e != api.OK {
		t.Errorf("Bind of %s: %d", line, e)
	}
	wantState(t, "Bind of "+line, got, want)
	wantAgain(t, plain(), x, b)
}

func TestBind(t *testing.T) {
	for _, c := range []struct{ equations, binds, line, wantEquations, wantBinds string }{
		{"X = f(Y,Y); Y = a; f(X,a) = Z", "", "Y -> a", "X = f(a,a); a = a; f(X,a) = Z", "Y -> a"},
		{"", "", "X -> a", "", "X -> a"},
		{"", "", "X -> Y", "", "X -> Y"},
		{"", "", "Y -> plus(X,a)", "", "Y -> plus(X,a)"},
		{"X = X", "", "X -> f(Y,a)", "f(Y,a) = f(Y,a)", "X -> f(Y,a)"},
		{"f(X,f(X,X)) = g(X); Y = Z", "", "X -> g(Y)", "f(g(Y),f(g(Y),g(Y))) = g(g(Y)); Y = Z", "X -> g(Y)"},
		{"a = b; Y = f(Z,W)", "V -> f(Y,Y)", "X -> a", "a = b; Y = f(Z,W)", "V -> f(Y,Y), X -> a"},
		{"", "A -> f(X,X), B -> Y, C -> X", "X -> g(Z)", "", "A -> f(g(Z),g(Z)), B -> Y, C -> g(Z), X -> g(Z)"},
		{"X = Y", "W -> X, Z -> Y", "X -> Y", "Y = Y", "W -> Y, X -> Y, Z -> Y"},
		{"X = Xa; Xa = X2", "", "X -> a", "a = Xa; Xa = X2", "X -> a"},
		{"plus(X,Y) = Z", "", "X -> plus(W,a)", "plus(W,Y,a) = Z", "X -> plus(W,a)"},
		{"plus(X,X,Y) = plus(X,a)", "V -> plus(X,b)", "X -> plus(W,a)", "plus(W,W,Y,a,a) = plus(W,a,a)", "V -> plus(W,a,b), X -> plus(W,a)"},
		{"plus(Y,a) = plus(Y,b)", "", "Y -> b", "plus(a,b) = plus(b,b)", "Y -> b"},
		{"plus(A,Z) = plus(B,Z)", "", "Z -> A", "plus(A,A) = plus(A,B)", "Z -> A"},
		{"f(plus(X,Y),Z) = g(plus(X,a))", "V -> g(plus(W,X))", "X -> plus(Y,Y)", "f(plus(Y,Y,Y),Z) = g(plus(Y,Y,a))", "V -> g(plus(W,Y,Y)), X -> plus(Y,Y)"},
		{"plus(X,times(X,Y)) = Z", "", "X -> times(V,one)", "plus(times(V,one),times(V,Y,one)) = Z", "X -> times(V,one)"},
		{"times(X,Y) = Z", "", "X -> one", "times(Y,one) = Z", "X -> one"},
		{"times(X,Y) = Z", "", "Y -> times(one,one)", "times(X,one,one) = Z", "Y -> times(one,one)"},
		{"plus(X,Y) = Z", "", "X -> times(U,V)", "plus(Y,times(U,V)) = Z", "X -> times(U,V)"},
	} {
		for _, fresh := range []int{0, 5} {
			wantBound(t, read(t, c.equations, c.binds, fresh), c.line, read(t, c.wantEquations, c.wantBinds, fresh))
		}
	}
}

// TestBindBySignature: the terms are made canonical by the signature that is handed in.
func TestBindBySignature(t *testing.T) {
	x := api.State{Equations: []api.Equation{eq(sy(times, v("X"), v("Y")), v("Z"))}}
	got, _ := state.Bind(example(), x, bind("X", sy(one)))
	wantState(t, "with its unit", got, api.State{Equations: []api.Equation{eq(v("Y"), v("Z"))}, Binds: []api.Bind{bind("X", sy(one))}})
	got, _ = state.Bind(plain(), x, bind("X", sy(one)))
	wantState(t, "without it", got, api.State{Equations: []api.Equation{eq(sy(times, v("Y"), sy(one)), v("Z"))}, Binds: []api.Bind{bind("X", sy(one))}})
}

// TestBindsPlace: by rising variables, byte by byte.
func TestBindsPlace(t *testing.T) {
	for _, c := range []struct{ binds, line, want string }{
		{"B -> a", "A -> b", "A -> b, B -> a"},
		{"B -> a", "C -> b", "B -> a, C -> b"},
		{"A -> a, C -> a, E -> a, G -> a", "_1 -> b", "A -> a, C -> a, E -> a, G -> a, _1 -> b"},
		{"C -> a, E -> a, G -> a", "A -> b", "A -> b, C -> a, E -> a, G -> a"},
		{"C -> a, E -> a, G -> a", "D -> b", "C -> a, D -> b, E -> a, G -> a"},
		{"C -> a, E -> a, G -> a", "F -> b", "C -> a, E -> a, F -> b, G -> a"},
		{"C -> a, E -> a, G -> a", "Ea -> b", "C -> a, E -> a, Ea -> b, G -> a"},
		{"C -> a, E1 -> a, G -> a", "E -> b", "C -> a, E -> b, E1 -> a, G -> a"},
		{"X1 -> a, X2 -> a, X3 -> a", "X10 -> b", "X1 -> a, X10 -> b, X2 -> a, X3 -> a"},
		{"_1 -> a, _3 -> a", "_10 -> b", "_1 -> a, _10 -> b, _3 -> a"},
		{"_1 -> a, _3 -> a", "Z -> b", "Z -> b, _1 -> a, _3 -> a"},
	} {
		wantBound(t, read(t, "", c.binds, 0), c.line, read(t, "", c.want, 0))
	}
}

// TestBindOneByOne: in whatever order variables are bound, they stand in order.
func TestBindOneByOne(t *testing.T) {
	m := newMaker(350)
	for range 200 {
		x := read(t, "f(X,f(Xa,f(Y,f(Z,f(_1,f(_10,_2)))))) = g(_2)", "", 0)
		for _, i := range m.Perm(len(varNames())) {
			var e api.Errno
			if x, e = state.Bind(plain(), x, bind(varNames()[i], sy(i%2*5))); e != api.OK {
				t.Fatal(e)
			}
		}
		wantState(t, "one by one", x, read(t, "f(a,f(b,f(a,f(b,f(a,f(b,a)))))) = g(a)", "X -> a, Xa -> b, Y -> a, Z -> b, _1 -> a, _10 -> b, _2 -> a", 0))
	}
}

func TestBindOccurs(t *testing.T) {
	deep := tower(300, sy(f, sy(a), v("Y")))
	for _, x := range []api.State{{}, chapters(t), {Binds: []api.Bind{bind("X", sy(a))}}, {Equations: []api.Equation{eq(tower(500, v("Y")), v("X"))}}, {Binds: []api.Bind{bind("X", tower(401, v("Z")))}}} {
		for _, y := range []api.Term{v("Y"), term(t, "f(Y,a)"), term(t, "f(a,Y)"), term(t, "g(Y)"), term(t, "plus(X,Y)"), term(t, "times(Y,one)"), term(t, "f(a,f(a,g(plus(X,g(Y)))))"), deep, tower(401, v("Y"))} {
			got, e := state.Bind(plain(), x, bind("Y", y))
			wantError(t, "Bind of Y -> "+written(y), got, e, api.ErrStateOccurs)
		}
		for _, y := range []api.Term{v("Y1"), v("y"), term(t, "f(X,a)"), term(t, "plus(YY,Z)")} {
			if _, e := state.Bind(plain(), x, bind("Y", y)); e == api.ErrStateOccurs {
				t.Errorf("Y does not stand in %s", written(y))
			}
		}
	}
}

// TestBindGrown: in a left side, in a right side, in a bound term; one node more, and just as many as there may be.
func TestBindGrown(t *testing.T) {
	for _, c := range []struct {
		t    api.Term
		b    api.Term
		many int
	}{
		{tower(399, v("X")), tower(2, sy(a)), 400},
		{tower(399, v("X")), tower(3, sy(a)), 401},
		{tower(400, v("X")), v("Y"), 400},
		{tower(401, v("X")), v("Y"), 401},
		{tower(401, v("Z")), v("Y"), 401},
		{tower(400, v("Z")), tower(1000, sy(a)), 400},
		{v("X"), tower(400, sy(a)), 400},
		{v("X"), tower(401, sy(a)), 401},
		{sy(f, v("X"), v("X")), tower(199, sy(a)), 399},
		{sy(f, v("X"), v("X")), tower(200, sy(a)), 401},
		{sy(f, v("X"), v("Y")), tower(398, sy(a)), 400},
		{sy(f, v("X"), v("Y")), tower(399, sy(a)), 401},
		{sum(397, v("X"), v("Y")), sy(b), 400},
		{sum(398, v("X"), v("Y")), sy(b), 401},
		// As they are written: what is laid flat behind that counts.
		{sum(1, v("X")), sum(397), 400},
		{sum(1, v("X")), sum(398), 401},
	} {
		others := read(t, "X = f(Y,Y); Y = a", "U -> a, W -> b", 2)
		for place := range 4 {
			x := state.Clone(others)
			switch place {
			case 0:
				x.Equations[0].L = c.t
			case 1:
				x.Equations[1].R = c.t
			case 2:
				x.Binds[0].T = c.t
			case 3:
				x.Binds[1].T = c.t
			}
			// Where the first equation has X itself on its left side, that grows, too.
			most := c.many
			if place > 0 {
				most = max(most, nodes(c.b))
			}
			want := api.OK
			if most > api.MaxGrown {
				want = api.ErrSubstGrown
			}
			if e := wantAgain(t, plain(), x, bind("X", c.b)); e != want {
				t.Errorf("%s at %d with X -> %s: %d; want %d", written(c.t), place, written(c.b), e, want)
			}
		}
	}
}

// TestBindOfABoundGreatTerm: what is bound may have any number of nodes, if it is put in nowhere.
func TestBindOfABoundGreatTerm(t *testing.T) {
	x := read(t, "Y = a", "U -> a", 0)
	got, e := state.Bind(plain(), x, bind("X", tower(1000, sy(a))))
	if e != api.OK || len(got.Binds) != 2 || written(got.Binds[1].T) != written(tower(1000, sy(a))) {
		t.Errorf("%d", e)
	}
	got, e = state.Bind(plain(), got, bind("V", sy(a)))
	wantError(t, "a bound term that is too great", got, e, api.ErrSubstGrown)
}

// TestOccursAheadOfGrown: where both are so, ErrStateOccurs.
func TestOccursAheadOfGrown(t *testing.T) {
	for _, y := range []api.Term{tower(401, v("X")), sy(f, v("X"), tower(1000, sy(a))), sum(400, v("X"))} {
		for _, x := range []api.State{{Equations: []api.Equation{eq(v("X"), v("Y"))}}, {Equations: []api.Equation{eq(v("Y"), v("X"))}}, {Binds: []api.Bind{bind("W", v("X"))}}, {Binds: []api.Bind{bind("W", tower(401, sy(a)))}}} {
			got, e := state.Bind(plain(), x, bind("X", y))
			wantError(t, "both", got, e, api.ErrStateOccurs)
			got, e = state.Bind(plain(), x, bind("X", with("X", v("Z"), y)))
			wantError(t, "grown alone", got, e, api.ErrSubstGrown)
		}
	}
}

func TestBindOfMany(t *testing.T) {
	seen := map[api.Errno]int{}
	for i, s := range signatures() {
		m := newMaker(int64(360 + i))
		for j := range 2500 {
			x, b := m.state(s, 12)
			if j%10 == 0 {
				x, b = m.state(s, 100)
				b.T = canon.Canon(s, with(b.Var, v("Q"), m.right(s, 300)))
			}
			seen[wantAgain(t, s, x, b)]++
		}
	}
	for e, least := range map[api.Errno]int{api.OK: 3000, api.ErrStateOccurs: 1000, api.ErrSubstGrown: 50} {
		if seen[e] < least {
			t.Errorf("%d was said %d times", e, seen[e])
		}
	}
}
