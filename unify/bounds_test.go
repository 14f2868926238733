package unify_test

import (
	"testing"

	"amalgam/api"
	"amalgam/solve"
)

// wantTally: what the chapter's words count of an equation, so that a test is known to lie at the bound that it means.
func wantTally(t *testing.T, line string, ways, made, forms int, e api.Errno) tally {
	t.Helper()
	x := again(example(), equation(t, line))
	if x.ways != ways || x.made != made || x.forms != forms || x.e != e {
		t.Errorf("%s: %d ways, %d states, %d forms, %d; want %d, %d, %d, %d", line, x.ways, x.made, x.forms, x.e, ways, made, forms, e)
	}
	return x
}

// More than 100 solved forms in all: of no way so many, and not of the answers that are left once the same ones are taken out.
func TestFormsOfAllWays(t *testing.T) {
	line := "f(times(Y,one,X),sum(W,Y)) = f(times(Z,b,b),sum(Z,Y,V))"
	x := wantTally(t, line, 243, 1207, 100, api.OK)
	if x.giving != 58 || len(x.list) == 0 {
		t.Errorf("%d ways gave a form, %d answers", x.giving, len(x.list))
	}
	wantUnify(t, example(), equation(t, line), x.list, api.OK)
	line = "f(times(Z,W),sum(Z,Y)) = f(times(X,V,one),sum(Y,V))"
	wantTally(t, line, 243, 946, 101, api.ErrTooMany)
	wantError(t, line, api.ErrTooMany)
}

// Forms are counted ahead of leaving out: all that are found here say the same.
func TestFormsAreCountedAheadOfLeavingOut(t *testing.T) {
	wantLines(t, "times(A,B,C,D,E,F) = one", "A -> one, B -> one, C -> one, D -> one, E -> one, F -> one")
	for _, x := range []struct {
		line string
		e    api.Errno
	}{
		{"f(A,f(B,f(C,f(D,f(E,times(F,F)))))) = f(one,f(one,f(one,f(one,f(one,one)))))", api.OK},
		{"f(A,f(B,f(C,f(D,f(E,f(F,times(G,one))))))) = f(one,f(one,f(one,f(one,f(one,f(one,one))))))", api.ErrTooMany},
	} {
		got := again(example(), equation(t, x.line))
		if got.e != x.e || x.e == api.OK && (got.forms != 32 || len(got.list) != 1) || x.e != api.OK && got.forms != 101 {
			t.Errorf("%s: %d forms, %d answers, %d", x.line, got.forms, len(got.list), got.e)
		}
		wantUnify(t, example(), equation(t, x.line), got.list, x.e)
	}
}

// More than 4096 states in all, counted on from way to way; each way makes one at least.
func TestStatesOfAllWays(t *testing.T) {
	for _, x := range []struct {
		line                    string
		ways, made, forms, list int
		e                       api.Errno
	}{
		{"f(times(A,B,C,D,E,F,G,H,I,J,K,L),a) = a", 4096, 4096, 0, 0, api.OK},
		{"times(A,B,C,D,E,F,G,H,I,J,K,L,g(L)) = g(one)", 4096, 4097, 1, 0, api.ErrTooMany},
		{"g(times(A,B,C,D,E,F,G,H,I,J,K,g(K))) = g(g(one))", 2048, 4096, 1, 1, api.OK},
		{"g(times(A,B,C,D,E,F,G,H,I,J,K,g(K))) = g(g(a))", 2048, 4097, 0, 0, api.ErrTooMany},
	} {
		got := wantTally(t, x.line, x.ways, x.made, x.forms, x.e)
		if len(got.list) != x.list {
			t.Errorf("%s: %d answers", x.line, len(got.list))
		}
		wantUnify(t, example(), equation(t, x.line), got.list, x.e)
	}
}

// TestMoreWaysThanStates: that it is too many is told soon, however many ways there are.
func TestMoreWaysThanStates(t *testing.T) {
	wantError(t, "f(times(A,B,C,D,E,F,G,H,I,J,K,L,M),a) = a", api.ErrTooMany)
	wantError(t, "times(A,B,C,D,E,F,G,H,I,J,K,L,M,N,O,P,Q,R,S,T,U,V,W,X,Y,Z,Aa,Ba,Ca,Da,Ea,Fa,Ga,Ha,Ia,Ja,Ka,La,Ma) = sum(Ab,Bb,Cb,Db,Eb,Fb,Gb,Hb,Ib,Jb,Kb,Lb,Mb,Nb,Ob,Pb,Qb,Rb,Sb,Tb,Ub,Vb,Wb,Xb,Yb,Zb,Ac,Bc,Cc,Dc,Ec,Fc,Gc,Hc,Ic,Jc,Kc,Lc,Mc)", api.ErrTooMany)
	// 3 to the 8 ways are more than 4096, 3 to the 7 are not.
	wantError(t, "f(times(A,B,C,D),sum(E,F,G,H)) = a", api.ErrTooMany)
	wantLines(t, "f(times(A,B,C,D),sum(E,F,G)) = a")
}

// solve says ErrTooMany: of its states, of its forms, of a sum that is too great, of a term that grows too great.
func TestWhatSolveSays(t *testing.T) {
	for _, line := range []string{
		"plus(A,B,C,D) = plus(E,F,G,H)",
		"f(plus(X,Y),plus(U,V)) = f(plus(Z,W),plus(S,T,T))",
		"plus(A,B,C,D,E,F) = plus(G,H)",
		"plus(X,X,X,X,X,X,X) = plus(Y,Z)",
		"f(A,f(B,f(C,f(D,f(E,f(F,f(G,f(H,a)))))))) = f(f(B,B),f(f(C,C),f(f(D,D),f(f(E,E),f(f(F,F),f(f(G,G),f(f(H,H),f(f(I,I),a))))))))",
	} {
		q := equation(t, line)
		if l, e := solve.Solve(example(), []api.Equation{q}); e != api.ErrTooMany {
			t.Errorf("%s: solve says %d, %d forms", line, e, len(l))
		}
		wantError(t, line, api.ErrTooMany)
	}
}

// TestWhatSolveSaysInALaterWay: the first way's answers are not told, either.
func TestWhatSolveSaysInALaterWay(t *testing.T) {
	// The sides have unlike symbols, as long as X is no unit.
	wantError(t, "times(X,plus(a,b,g(a),g(b),f(a,a),f(a,b))) = plus(Y,Z)", api.ErrTooMany)
	// There are answers, as long as C is not zero: two sums, each an alien to the other one, are held against each other only then.
	line := "times(A,plus(a,b,g(a),g(b),f(a,a),f(a,b))) = times(B,sum(C,plus(X,Y)))"
	if x := again(example(), equation(t, line)); x.giving != 18 || x.made > 4096 || x.forms > 100 || x.e != api.ErrTooMany {
		t.Errorf("%d ways gave a form, %d states, %d forms, %d", x.giving, x.made, x.forms, x.e)
	}
	wantError(t, line, api.ErrTooMany)
}
