package proof_test

import (
	"testing"

	"amalgam/api"
	"amalgam/proof"
	"amalgam/unify"
)

// wantAsUnify: a proof of each answer of Unify, in order.
func wantAsUnify(t *testing.T, s api.Signature, q api.Equation, many int) {
	t.Helper()
	answers, e := unify.Unify(s, q.L, q.R)
	if e != api.OK || len(answers) != many {
		t.Fatalf("%s: %d answers, %d; want %d", told(q), len(answers), e, many)
	}
	wantAll(t, s, q, answers, api.OK)
}

// No unifier, one, and many, in the order of Unify.
func TestAll(t *testing.T) {
	for line, many := range map[string]int{
		"plus(X,a) = a":                       0,
		"a = b":                               0,
		"X = f(X,a)":                          0,
		"times(X,a) = one":                    0,
		"plus(X,g(a)) = times(Y,Z,b)":         0,
		"a = a":                               1,
		"X = Y":                               1,
		"plus(X,a) = plus(a,Y)":               1,
		"f(X,g(X)) = f(g(Y),Z)":               1,
		"times(X,a) = a":                      1,
		"f(f(X,Y),f(Y,Z)) = f(f(a,Z),f(b,W))": 1,
		"plus(X,a) = plus(b,Y)":               2,
		"times(X,one) = X":                    2,
		"times(X,one) = sum(X,zero)":          3,
		"times(X,Y) = Z":                      4,
		"plus(X,Y) = plus(a,a,one)":           4,
		"plus(X,Y) = plus(Z,W)":               7,
		"plus(X,X,Y) = plus(Z,W)":             19,
		"f(plus(X,Y),plus(Y,Z)) = f(plus(a,b),plus(b,a))": 2,
	} {
		wantAsUnify(t, example(), equation(t, line), many)
	}
	wantAll(t, example(), equation(t, "plus(X,a) = plus(Y,one)"), lists(t, "X -> one, Y -> a", "X -> plus(_1,one), Y -> plus(_1,a)"), api.OK)
	wantAll(t, example(), equation(t, "times(X,a) = times(Y,b)"), lists(t, "X -> b, Y -> a", "X -> times(_1,b), Y -> times(_1,a)"), api.OK)
}

// A hundred solved forms, of which some say the same, are not too many; a hundred and one are.
func TestAllOfManyAnswers(t *testing.T) {
	q := equation(t, "f(times(Y,one,X),sum(W,Y)) = f(times(Z,b,b),sum(Z,Y,V))")
	answers, e := unify.Unify(example(), q.L, q.R)
	if e != api.OK || len(answers) < 50 {
		t.Fatalf("%d answers, %d", len(answers), e)
	}
	wantAll(t, example(), q, answers, api.OK)
	wantAll(t, example(), equation(t, "f(times(Z,W),sum(Z,Y)) = f(times(X,V,one),sum(Y,V))"), nil, api.ErrTooMany)
}

// Unify's own errors, behind those of what comes in.
func TestErrorsOfAll(t *testing.T) {
	s := example()
	for _, line := range []string{"_1 = a", "a = _1", "plus(X,_7) = plus(a,X)", "f(X,X) = f(a,_10)", "_2 = _2"} {
		wantAll(t, s, equation(t, line), nil, api.ErrUnifyName)
	}
	for _, line := range []string{"plus(A,B,C,D) = plus(E,F,G,H)", "plus(A,B,C,D,E,F) = plus(G,H)", "plus(X,X,X,X,X,X,X) = plus(Y,Z)", "f(times(A,B,C,D,E,F,G,H,I,J,K,L,M),a) = a"} {
		wantAll(t, s, equation(t, line), nil, api.ErrTooMany)
	}
	for _, w := range wrongTerms() {
		wantAll(t, s, eq(v("_1"), w.t), nil, w.want)
		wantAll(t, s, eq(w.t, v("_1")), nil, w.want)
	}
}

// doubled is an equation of which each answer makes the sides some 127 times as great as what it makes of T; the rest says what that is.
const doubled = "f(%,f(A,f(B,f(C,f(D,f(E,F)))))) = f(%,f(f(B,B),f(f(C,C),f(f(D,D),f(f(E,E),f(f(F,F),f(T,T)))))))"

// ErrSubstGrown, if Make says so of one: of the only one, or of one behind others.
func TestAllOfWhatGrows(t *testing.T) {
	s := example()
	wantOf := func(l, r string, want ...api.Errno) {
		t.Helper()
		line, sides := "", []string{l, r}
		for _, c := range doubled {
			if c == '%' {
				line, sides = line+sides[0], sides[1:]
			} else {
				line += string(c)
			}
		}
		q := equation(t, line)
		answers, e := unify.Unify(s, q.L, q.R)
		if e != api.OK || len(answers) != len(want) {
			t.Fatalf("%s: %d answers, %d", line, len(answers), e)
		}
		all := api.OK
		for i, b := range answers {
			wantMake(t, s, q, b, want[i])
			if all == api.OK {
				all = want[i]
			}
		}
		if all != api.OK {
			answers = nil
		}
		wantAll(t, s, q, answers, all)
	}
	wantOf("T", "b", api.OK)
	wantOf("T", "f(a,b)", api.ErrSubstGrown)
	wantOf("plus(T,a)", "plus(b,U)", api.OK, api.ErrSubstGrown)
	wantOf("plus(T,U)", "plus(a,b)", api.OK, api.OK)
	wantOf("plus(T,U)", "plus(a,a,b)", api.OK, api.OK, api.ErrSubstGrown, api.ErrSubstGrown)
}

// TestAllByTheWords: anything handed in, held against the chapter's words said again.
func TestAllByTheWords(t *testing.T) {
	seen := map[api.Errno]int{}
	for i, s := range signatures() {
		m := newMaker(int64(2330 + i))
		for j := range 400 {
			q := m.equation(s, 3+j%12, 2+j%3)
			if j%9 == 0 {
				q = eq(m.spoilt(s, 6), m.spoilt(s, 6))
			}
			answers, e := unify.Unify(s, q.L, q.R)
			for _, b := range answers {
				if grown := makeAgain(s, q, b); grown != api.OK && e == api.OK {
					answers, e = nil, grown
				}
			}
			wantAll(t, s, q, answers, e)
			seen[e] += len(answers) + 1
			if t.Failed() {
				return
			}
		}
	}
	for _, e := range []api.Errno{31, 32, 33} {
		if seen[e] == 0 {
			t.Errorf("no error %d", e)
		}
	}
	if seen[api.OK] < 1500 {
		t.Errorf("%v", seen)
	}
}

// A proof of one equation is none of another one, but where its sides with the binds are written alike.
func TestProofsOfOthers(t *testing.T) {
	s := example()
	lines := []string{"plus(X,a) = plus(b,Y)", "plus(X,b) = plus(a,Y)", "plus(a,X) = plus(b,Y)", "times(X,Y) = Z", "times(Y,X) = Z", "plus(X,Y) = plus(Z,W)"}
	refused := 0
	for _, line := range lines {
		q := equation(t, line)
		l, e := proof.All(s, q.L, q.R)
		if e != api.OK || len(l) == 0 {
			t.Fatalf("%s: %d", line, e)
		}
		for _, other := range lines {
			x := equation(t, other)
			for _, p := range l {
				e, at := again(s, x, p)
				wantCheck(t, s, x, p, e, at)
				if is, _ := unify.Is(s, x.L, x.R, p.Binds); e == api.OK && !is {
					t.Errorf("%s holds of %s", toldProof(p), other)
				}
				if e != api.OK {
					refused++
				}
			}
		}
	}
	if refused < 30 {
		t.Errorf("only %d were refused", refused)
	}
}
