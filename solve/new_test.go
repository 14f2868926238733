package solve_test

import (
	"slices"
	"strings"
	"testing"

	"amalgam/api"
	"amalgam/canon"
	"amalgam/sig"
	"amalgam/solve"
	"amalgam/terms"
)

func wantNone(t *testing.T, what string, s api.Signature, l []api.Equation, want api.Errno) {
	t.Helper()
	if m, e := solve.New(s, l); m != nil || e != want {
		t.Errorf("%s: New says %v, %d; want none, %d", what, m != nil, e, want)
	}
	if forms, e := solve.Solve(s, l); len(forms) != 0 || e != want {
		t.Errorf("%s: Solve says %d forms, %d; want none, %d", what, len(forms), e, want)
	}
}

// wrongSignatures are such that sig's Check refuses.
func wrongSignatures() []api.Signature {
	return []api.Signature{
		{{}},
		{{Name: "F", Kind: api.Free}},
		append(example(), api.Symbol{Name: "f", Kind: api.Free}),
		{{Name: "a", Kind: 4}},
		{{Name: "a", Kind: api.Free, Arity: 5}},
		{{Name: "a", Kind: api.AC, Arity: 3}},
		{{Name: "a", Kind: api.Free, Unit: "a"}},
		example()[2:],
		slices.Repeat(example(), 3),
	}
}

func TestNewOfAWrongSignature(t *testing.T) {
	seen := map[api.Errno]int{}
	for _, s := range wrongSignatures() {
		want, _ := sig.Check(s)
		seen[want]++
		wantNone(t, "a wrong signature", s, nil, want)
		// The signature's error comes ahead of all others.
		wantNone(t, "and a wrong equation", s, []api.Equation{eq(sy(99), v("_1"))}, want)
	}
	if len(seen) != 5 || seen[api.OK] > 0 {
		t.Errorf("%v", seen)
	}
}

// wrongSide is one with its error.
type wrongSide struct {
	t    api.Term
	want api.Errno
}

func wrongSides() []wrongSide {
	return []wrongSide{
		{v("x"), api.ErrTermsVar}, {v("Abcdefghijklm"), api.ErrTermsVar}, {v("_"), api.ErrTermsVar}, {v("_01"), api.ErrTermsVar}, {v("_x"), api.ErrTermsVar},
		{api.Term{Var: "X", Sym: 1}, api.ErrTermsVar}, {api.Term{Var: "_1", Args: many(1, sy(a))}, api.ErrTermsVar},
		{sy(9), api.ErrTermsSymbol}, {sy(-1), api.ErrTermsSymbol}, {sy(f, v("X"), sy(99)), api.ErrTermsSymbol},
		{sy(f, v("X")), api.ErrTermsArgs}, {sy(plus, v("X")), api.ErrTermsArgs}, {sy(times), api.ErrTermsArgs}, {sy(a, v("X")), api.ErrTermsArgs}, {sy(g, sy(f, sy(a))), api.ErrTermsArgs},
		{tower(41, sy(a)), api.ErrTermsLong}, {sy(plus, many(40, v("_1"))...), api.ErrTermsLong},
		{v("_1"), api.ErrSolveName}, {v("_12345678901"), api.ErrSolveName}, {sy(f, sy(a), v("_7")), api.ErrSolveName}, {sy(plus, v("X"), v("Y"), sy(g, v("_1"))), api.ErrSolveName}, {tower(40, v("_20")), api.ErrSolveName}, {sy(times, v("_1"), sy(one)), api.ErrSolveName},
	}
}

func TestNewOfAWrongSide(t *testing.T) {
	fine := sy(f, v("X"), sy(a))
	for i, w := range wrongSides() {
		what := "side " + written(w.t)
		wantNone(t, what+" on the left", example(), []api.Equation{eq(w.t, fine)}, w.want)
		wantNone(t, what+" on the right", example(), []api.Equation{eq(fine, w.t)}, w.want)
		wantNone(t, what+" on the left of a later one", example(), []api.Equation{eq(fine, fine), eq(v("X"), v("Y")), eq(w.t, fine)}, w.want)
		wantNone(t, what+" on the right of a later one", example(), []api.Equation{eq(fine, fine), eq(v("X"), v("Y")), eq(fine, w.t), eq(fine, fine)}, w.want)
		for j, other := range wrongSides() {
			if i == j {
				continue
			}
			wantNone(t, what+" ahead on the left", example(), []api.Equation{eq(w.t, other.t)}, w.want)
			wantNone(t, what+" ahead in an earlier one", example(), []api.Equation{eq(fine, w.t), eq(other.t, fine)}, w.want)
		}
	}
}

// TestNewWhichErrorOfASide: of one side terms' Check comes first, wherever its fault stands.
func TestNewWhichErrorOfASide(t *testing.T) {
	wantNone(t, "a fresh variable, then a wrong symbol", example(), []api.Equation{eq(sy(f, v("_1"), sy(99)), sy(a))}, api.ErrTermsSymbol)
	wantNone(t, "a fresh variable, then a wrong one", example(), []api.Equation{eq(sy(a), sy(f, v("_1"), v("x")))}, api.ErrTermsVar)
	wantNone(t, "a fresh variable on the left, a wrong symbol on the right", example(), []api.Equation{eq(v("_1"), sy(99))}, api.ErrSolveName)
	wantNone(t, "a wrong symbol on the left, a fresh variable on the right", example(), []api.Equation{eq(sy(99), v("_1"))}, api.ErrTermsSymbol)
	wantNone(t, "an equation that has no answer does not matter", example(), []api.Equation{eq(sy(a), sy(b)), eq(v("_1"), sy(a))}, api.ErrSolveName)
}

// TestNewOfTheGreatestSides: what is just right still.
func TestNewOfTheGreatestSides(t *testing.T) {
	for _, x := range []api.Term{tower(40, v("X")), sy(plus, many(39, v("Y"))...), v("Abcdefghijkl"), v("X")} {
		m := started(t, example(), []api.Equation{eq(x, sy(a)), eq(sy(a), x)})
		wantMade(t, written(x), m, 1, 1)
	}
}

func TestNewOfNoEquations(t *testing.T) {
	for _, s := range append(signatures(), nil, api.Signature{}) {
		for _, l := range [][]api.Equation{nil, {}} {
			m, e := solve.New(s, l)
			if e != api.OK || m == nil {
				t.Fatal(e)
			}
			wantMade(t, "at once", m, 1, 1)
			wantTop(t, "at once", m, api.State{})
			wantStep(t, "the solved state", m, false)
			wantMade(t, "behind it", m, 1, 0)
			wantNoTop(t, "behind it", m)
			wantStep(t, "the empty stack", m, true)
			got, e := m.Answer()
			wantAnswer(t, "no equations", got, e, [][]api.Bind{nil}, api.OK)
		}
	}
}

// TestNewOfNoSymbols: equations of variables alone.
func TestNewOfNoSymbols(t *testing.T) {
	got, e := solve.Solve(nil, []api.Equation{eq(v("X"), v("Y")), eq(v("Z"), v("Y"))})
	wantAnswer(t, "no symbols", got, e, [][]api.Bind{{bind("Y", v("X")), bind("Z", v("X"))}}, api.OK)
}

// TestNewMakesCanonical: by sig's Plain, so that a unit stays.
func TestNewMakesCanonical(t *testing.T) {
	for _, x := range []struct{ in, want string }{
		{"plus(a,plus(X,a)) = plus(b,Y)", "plus(X,a,a) = plus(Y,b)"},
		{"times(X,one) = X", "times(X,one) = X"},
		{"times(one,times(X,one)) = times(one,one)", "times(X,one,one) = times(one,one)"},
		{"f(plus(a,X),times(one,Y)) = g(times(times(b,a),one))", "f(plus(X,a),times(Y,one)) = g(times(a,one,b))"},
		{"X = plus(Y,X); plus(one,X) = a", "X = plus(X,Y); plus(X,one) = a"},
		{"plus(times(one,a),a) = one", "plus(a,times(a,one)) = one"},
	} {
		m := machine(t, x.in)
		wantMade(t, x.in, m, 1, 1)
		wantTop(t, x.in, m, read(t, x.want, "", 0))
	}
}

func TestNewOfManyMade(t *testing.T) {
	changed := 0
	for i, s := range signatures() {
		m := newMaker(int64(500 + i))
		for range 300 {
			l := m.equations(s, 4, 12, 5)
			want := api.State{}
			for _, q := range l {
				p := eq(canon.Canon(sig.Plain(s), q.L), canon.Canon(sig.Plain(s), q.R))
				want.Equations = append(want.Equations, p)
				if !terms.Same(p.L, q.L) {
					changed++
				}
			}
			x := started(t, s, l)
			wantTop(t, "at once", x, want)
			wantMade(t, "at once", x, 1, 1)
			got, e := x.Answer()
			wantAnswer(t, "at once", got, e, nil, api.OK)
		}
	}
	if changed < 200 {
		t.Errorf("only %d sides were changed", changed)
	}
}

// TestNewOfSpoilt: what New says of any equations is what the first side that is wrong says.
func TestNewOfSpoilt(t *testing.T) {
	seen := map[api.Errno]int{}
	for i, s := range signatures() {
		m := newMaker(int64(510 + i))
		for range 1000 {
			var l []api.Equation
			for range m.Intn(4) {
				l = append(l, eq(m.spoilt(s, 6), m.spoilt(s, 6)))
			}
			want := api.OK
			for _, q := range l {
				for _, x := range []api.Term{q.L, q.R} {
					if want == api.OK {
						want = sideAgain(s, x)
					}
				}
			}
			seen[want]++
			if x, e := solve.New(s, l); e != want || (x != nil) != (e == api.OK) {
				t.Fatalf("%s: %d; want %d", toldEquations(l), e, want)
			}
		}
	}
	if len(seen) < 5 || seen[api.OK] < 100 || seen[api.ErrSolveName] < 5 {
		t.Errorf("%v", seen)
	}
}

// sideAgain is what the chapter says of one side, said again.
func sideAgain(s api.Signature, x api.Term) api.Errno {
	if e := terms.Check(s, x); e != api.OK {
		return e
	}
	if strings.Contains(" "+strings.Join(terms.Vars(x), " "), " _") {
		return 161
	}
	return 0
}
