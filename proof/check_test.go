package proof_test

import (
	"testing"

	"amalgam/api"
	"amalgam/canon"
	"amalgam/proof"
)

// The chapter's examples, word by word, by its own signature.
func TestExamples(t *testing.T) {
	s, q, x := document(), equation(t, "plus(X,a) = plus(a,Y)"), binds(t, "X -> Y")
	p, e := proof.Make(s, q.L, q.R, x)
	if e != api.OK || len(p.Steps) == 0 {
		t.Fatalf("%s, %d", toldProof(p), e)
	}
	wantHolds(t, s, q, p, x)
	wantCheck(t, s, q, api.Proof{Binds: p.Binds}, api.ErrProofEnd, 0)
	wantMake(t, s, equation(t, "f(X,a) = f(a,X)"), x, api.ErrProofEnd)
}

// The document's first example of the whole, and T1 for the others that Unify answers.
func TestExamplesOfTheWhole(t *testing.T) {
	wantMake(t, document(), equation(t, "plus(a,plus(X,a)) = plus(X,a,a)"), nil, api.OK)
	for _, x := range []struct {
		in   string
		want []string
	}{
		{"f(X,a) = f(a,Y)", []string{"X -> a, Y -> a"}},
		{"plus(X,a) = plus(Y,a)", []string{"Y -> X"}},
		{"plus(X,a) = plus(Y,one)", []string{"X -> one, Y -> a", "X -> plus(_1,one), Y -> plus(_1,a)"}},
		{"plus(X,a) = a", nil},
		{"times(X,a) = a", []string{"X -> one"}},
		{"f(X,X) = f(plus(Y,a),plus(a,one))", []string{"X -> plus(a,one), Y -> one"}},
		{"times(X,Y) = times(Y,X)", []string{"", "Y -> one", "X -> one", "X -> one, Y -> one"}},
	} {
		wantAll(t, document(), equation(t, x.in), lists(t, x.want...), api.OK)
	}
}

// lists reads lists of binds; an empty line is a list of none.
func lists(t *testing.T, lines ...string) [][]api.Bind {
	t.Helper()
	var l [][]api.Bind
	for _, line := range lines {
		l = append(l, binds(t, line))
	}
	return l
}

// checks are proofs, written out, of the example's equations.
func checks(t *testing.T) []struct {
	in, with string
	steps    []api.Step
	want     api.Errno
	at       int
} {
	t.Helper()
	return []struct {
		in, with string
		steps    []api.Step
		want     api.Errno
		at       int
	}{
		// No steps: both sides are written alike, with what is put in, or are not.
		{"a = a", "", nil, 0, 0},
		{"X = X", "", nil, 0, 0},
		{"X = Y", "X -> Y", nil, 0, 0},
		{"X = Y", "X -> Z, Y -> Z", nil, 0, 0},
		{"f(X,a) = f(a,Y)", "X -> a, Y -> a", nil, 0, 0},
		{"plus(X,a,a) = plus(X,a,a)", "", nil, 0, 0},
		{"plus(X,plus(a,b)) = plus(b,Y)", "X -> b, Y -> plus(a,b)", nil, 0, 0},
		{"a = b", "", nil, api.ErrProofEnd, 0},
		{"X = Y", "", nil, api.ErrProofEnd, 0},
		{"X = a", "", nil, api.ErrProofEnd, 0},
		{"f(X,a) = f(a,Y)", "X -> a", nil, api.ErrProofEnd, 0},
		{"g(a) = f(a,a)", "", nil, api.ErrProofEnd, 0},
		// Equal modulo the axioms, but not written alike.
		{"plus(X,a) = plus(a,X)", "", nil, api.ErrProofEnd, 0},
		{"plus(X,plus(a,b)) = plus(X,a,b)", "", nil, api.ErrProofEnd, 0},
		{"times(X,one) = X", "", nil, api.ErrProofEnd, 0},
		{"plus(X,a) = Y", "X -> plus(b,b), Y -> plus(a,b,b)", nil, api.ErrProofEnd, 0},
		{"plus(X,plus(a,b)) = plus(b,a,X)", "", []api.Step{flat(1)}, api.ErrProofEnd, 1},
		{"plus(X,plus(a,b)) = plus(b,a,X)", "", []api.Step{flat(1), swap(0)}, api.ErrProofEnd, 2},
		// Each kind of steps.
		{"plus(X,a) = plus(a,X)", "", []api.Step{swap(0)}, 0, 0},
		{"plus(X,plus(a,b)) = plus(X,a,b)", "", []api.Step{flat(1)}, 0, 0},
		{"plus(X,a,b) = plus(X,plus(a,b))", "", []api.Step{group(1, 2)}, 0, 0},
		{"times(X,one) = X", "", []api.Step{drop(1)}, 0, 0},
		{"X = times(X,one)", "", []api.Step{grow(times, 1, 1)}, 0, 0},
		{"times(X,a) = times(X,one,a)", "", []api.Step{grow(times, 0, 1)}, 0, 0},
		{"plus(X,plus(a,b)) = plus(b,a,X)", "", []api.Step{flat(1), swap(1), swap(0), swap(1)}, 0, 0},
		{"f(g(plus(X,a)),b) = f(g(plus(a,X)),b)", "", []api.Step{swap(0, 0, 0)}, 0, 0},
		{"f(X,X) = f(X,X)", "X -> times(a,b)", []api.Step{swap(0, 0), swap(0, 1), swap(0, 1), swap(0, 0)}, 0, 0},
		// What is put in is put in as it is written, and its steps are to be done, too.
		{"plus(X,a) = Y", "X -> plus(b,b), Y -> plus(a,b,b)", []api.Step{flat(0), swap(1), swap(0)}, 0, 0},
		{"plus(X,a) = Y", "X -> plus(b,b), Y -> plus(a,b,b)", []api.Step{swap(1), swap(0)}, api.ErrProofStep, 0},
		{"times(X,Y) = a", "X -> one, Y -> a", []api.Step{drop(0)}, 0, 0},
		{"times(X,Y) = a", "X -> one, Y -> a", nil, api.ErrProofEnd, 0},
		{"Y = times(a,X)", "X -> times(a,b), Y -> times(a,a,b)", []api.Step{group(1, 2)}, 0, 0},
		// All at one stroke.
		{"plus(X,Y) = plus(Y,X)", "X -> Y, Y -> X", []api.Step{swap(0)}, 0, 0},
		{"plus(X,Y) = plus(Y,X)", "X -> Y, Y -> X", nil, api.ErrProofEnd, 0},
		{"f(X,Y) = f(g(Y),b)", "X -> g(Y), Y -> b", nil, api.ErrProofEnd, 0},
		{"f(X,Y) = f(Z,b)", "X -> g(Y), Y -> b, Z -> g(Y)", nil, 0, 0},
		{"X = Z", "X -> f(X,X), Z -> f(X,X)", nil, 0, 0},
		// All steps can be done, and they lead elsewhere; more of them than are wanted.
		{"plus(X,a) = plus(a,X)", "", []api.Step{swap(0), swap(0)}, api.ErrProofEnd, 2},
		{"plus(X,a) = plus(a,X)", "", []api.Step{swap(0), swap(0), swap(0)}, 0, 0},
		{"plus(X,a) = plus(a,X)", "", []api.Step{swap(0), grow(times, 1, 0)}, api.ErrProofEnd, 2},
		{"plus(X,a) = plus(a,X)", "", []api.Step{swap(0), grow(times, 1, 0), drop(0)}, 0, 0},
		{"plus(X,a) = plus(a,X)", "", []api.Step{grow(both, 1, 0, 1), swap(0), drop(0, 0)}, 0, 0},
		{"plus(X,a) = plus(a,a)", "", []api.Step{swap(0)}, api.ErrProofEnd, 1},
		{"X = X", "", []api.Step{grow(sum, 1, 1)}, api.ErrProofEnd, 1},
		{"X = X", "", []api.Step{grow(sum, 1, 1), grow(sum, 0, 0), grow(sum, 0, 3), drop(3), drop(2), drop(0)}, 0, 0},
		{"a = b", "", []api.Step{grow(sum, 1, 1), drop(1)}, api.ErrProofEnd, 2},
		// Numbers of a step that its kind does not name don't count.
		{"plus(X,a) = plus(a,X)", "", []api.Step{{Kind: api.Swap, Many: 77, Sym: -5}}, 0, 0},
		{"X = times(X,one)", "", []api.Step{{Kind: api.Grow, Sym: times, Many: 1, At: 1, Path: []int{}}}, 0, 0},
	}
}

func TestCheck(t *testing.T) {
	for _, x := range checks(t) {
		q, p := equation(t, x.in), api.Proof{Binds: binds(t, x.with), Steps: x.steps}
		wantCheck(t, example(), q, p, x.want, x.at)
		if e, at := again(example(), q, p); e != x.want || at != x.at {
			t.Errorf("by the words %s: %d at %d", x.in, e, at)
		}
	}
}

// Names that begin with _ may stand anywhere in what Check and Make are handed.
func TestNamesThatBeginWithAnUnderscore(t *testing.T) {
	s, q, l := example(), equation(t, "plus(_1,X) = plus(a,_7)"), binds(t, "X -> a, _1 -> _7")
	wantCheck(t, s, q, api.Proof{Binds: l, Steps: []api.Step{swap(0)}}, api.OK, 0)
	wantMake(t, s, q, l, api.OK)
	wantMake(t, s, equation(t, "_1 = _2"), binds(t, "_2 -> _1"), api.OK)
	wantMake(t, s, equation(t, "_1 = _2"), nil, api.ErrProofEnd)
}

func TestNoSymbols(t *testing.T) {
	wantMake(t, nil, eq(v("X"), v("Y")), []api.Bind{bind("X", v("Y"))}, api.OK)
	wantMake(t, nil, eq(v("X"), v("Y")), nil, api.ErrProofEnd)
	wantMake(t, nil, eq(v("X"), sy(0)), nil, api.ErrTermsSymbol)
	wantCheck(t, nil, eq(v("X"), v("X")), api.Proof{}, api.OK, 0)
	wantCheck(t, nil, eq(v("X"), v("X")), api.Proof{Steps: []api.Step{swap(0)}}, api.ErrProofStep, 0)
	wantCheck(t, nil, eq(v("X"), v("X")), api.Proof{Binds: []api.Bind{bind("X", sy(0))}}, api.ErrProofBinds, 0)
	wantCheck(t, nil, api.Equation{}, api.Proof{}, api.ErrTermsSymbol, 0)
	wantAll(t, nil, eq(v("X"), v("Y")), [][]api.Bind{{bind("Y", v("X"))}}, api.OK)
}

// A variable's Sym is 0, which may be the place of a sum or of a unit: no step takes it for one.
func TestVariablesAreNoSymbols(t *testing.T) {
	x, y := v("X"), v("Y")
	wantCheck(t, sumFirst(), eq(sy(0, x, y), sy(0, x, y)), api.Proof{Steps: []api.Step{flat(0)}}, api.ErrProofStep, 0)
	wantCheck(t, sumFirst(), eq(sy(0, x, y), sy(0, y, x)), api.Proof{Steps: []api.Step{swap(0)}}, api.OK, 0)
	wantCheck(t, unitFirst(), eq(sy(3, x, y), y), api.Proof{Steps: []api.Step{drop(0)}}, api.ErrProofStep, 0)
	wantCheck(t, unitFirst(), eq(sy(3, x, y), y), api.Proof{Binds: []api.Bind{bind("X", sy(0))}, Steps: []api.Step{drop(0)}}, api.OK, 0)
}

// TestCheckByTheWords: anything handed in, held against the chapter's words said again.
func TestCheckByTheWords(t *testing.T) {
	seen := map[api.Errno]int{}
	for i, s := range signatures() {
		m := newMaker(int64(2300 + i))
		for j := range 3000 {
			q := m.equation(s, 8, 3)
			p := api.Proof{Binds: m.binds(s, 4)}
			if j%2 == 0 {
				q.R = m.stirred(s, q.L, m.Intn(5))
			}
			if j%10 == 0 {
				q = eq(m.spoilt(s, 6), m.spoilt(s, 6))
			}
			if j%11 == 0 {
				p.Binds = append(p.Binds, bind("Z", m.spoilt(s, 6)))
			}
			for at := with(p.Binds, q.L); m.Intn(4) > 0; {
				p.Steps = append(p.Steps, m.likely(s, at))
				at = canon.Canon(s, at)
			}
			e, at := again(s, q, p)
			wantCheck(t, s, q, p, e, at)
			seen[e]++
			if t.Failed() {
				return
			}
		}
	}
	for _, e := range []api.Errno{0, 31, 32, 33, 231, 232, 233} {
		if seen[e] < 20 {
			t.Errorf("%d times error %d", seen[e], e)
		}
	}
}
