package match_test

import (
	"testing"

	"amalgam/api"
	"amalgam/match"
)

// First tells the first leaf of the walk, which need not be the first of Many's list.
func TestFirst(t *testing.T) {
	for _, x := range []struct{ line, want string }{
		{"plus(X,Y) = plus(a,a,one)", "X -> one, Y -> plus(a,a)"}, // of one taker the first kind comes last
		{"plus(X,Y) = plus(a,a,one); Y = one", "X -> plus(a,a), Y -> one"},
		{"times(X,Y) = a", "X -> a, Y -> one"}, // ways rise: first Y is one
		{"times(X,Y) = times(a,b)", "X -> b, Y -> a"},
		{"plus(g(X),Y) = plus(g(a),g(b),b)", "X -> a, Y -> plus(b,g(b))"}, // rising arguments, the first that fits
		{"plus(g(X),g(Y)) = plus(g(b),g(a))", "X -> a, Y -> b"},
		{"plus(g(X),f(Y,Y),Z) = plus(g(b),f(a,b),f(b,b),g(a))", "X -> a, Y -> b, Z -> plus(f(a,b),g(b))"},
		{"f(X,times(Y,a)) = f(one,times(a,b))", "X -> one, Y -> b"},
		{"X = f(a,C)", "X -> f(a,C)"},
	} {
		wantFirst(t, example(), read(t, x.line), binds(t, x.want), true, api.OK)
	}
	// What binds nothing, and is found all the same.
	for _, line := range []string{"X = X", "a = a", "plus(C,a) = plus(a,C)", "times(C,one) = C"} {
		wantFirst(t, example(), read(t, line), nil, true, api.OK)
	}
}

func TestFirstOfNone(t *testing.T) {
	for _, line := range []string{"X = a; X = b", "plus(X,X) = plus(a,b)", "a = b", "plus(X,a) = a", "times(X,a) = one", "plus(g(X),Y) = plus(a,b)", "f(X,X) = f(a,b)"} {
		wantFirst(t, example(), read(t, line), nil, false, api.OK)
	}
}

// The first leaf comes ahead of a limit that the whole walk would meet: of matchers, of states, of split's counts.
func TestFirstAheadOfALimit(t *testing.T) {
	s := example()
	// 201 matchers.
	x := matchersOf(t, 3, 67)
	wantMany(t, s, x, nil, api.ErrTooMany)
	if b, is, e := match.First(s, x.p, x.t); !is || e != api.OK || len(b) != 4 {
		t.Errorf("%s, %v, %d", toldBinds(b), is, e)
	}
	// 199 times 199 leaves are too many states, few of which come ahead of the first one.
	x = matchersOf(t, 199, 199)
	if y := again(s, x); y.e != api.ErrTooMany || y.made <= 20000 || y.madeAhead > 1000 {
		t.Errorf("%d states, %d ahead, %d", y.made, y.madeAhead, y.e)
	}
	wantMany(t, s, x, nil, api.ErrTooMany)
	wantFirst(t, s, x, again(s, x).first, true, api.OK)
	// The first argument that is tried leads to a sum that can be dealt out, the second one to one that can't.
	x = read(t, "plus(f(X,plus(Y,Z)),W) = plus(f(a,plus(a,a)),f(b,plus(a,a,a,a,a,a,a)))")
	wantMany(t, s, x, nil, api.ErrTooMany)
	wantFirst(t, s, x, binds(t, "W -> f(b,plus(a,a,a,a,a,a,a)), X -> a, Y -> a, Z -> a"), true, api.OK)
	// The other way round.
	x = read(t, "plus(f(X,plus(Y,Z)),W) = plus(f(b,plus(a,a)),f(a,plus(a,a,a,a,a,a,a)))")
	wantError(t, s, x, api.ErrTooMany)
}

// A limit that the walk meets ahead of the first leaf.
func TestFirstBehindALimit(t *testing.T) {
	s := example()
	wantFirst(t, s, read(t, "times(A,B,C,D,E,F,G,H,I,J,K,L,M) = one"), nil, false, api.ErrTooMany)
	wantFirst(t, s, read(t, "plus(X,Y) = plus(a,a,a,a,a,a,a)"), nil, false, api.ErrTooMany)
	wantFirst(t, s, steps(s, 19999).and(of(sy(a), sy(a))), nil, false, api.ErrTooMany)
	wantFirst(t, s, steps(s, 19998).and(of(sy(a), sy(a))), nil, true, api.OK)
	// No leaf at all, and too many states.
	x := matchersOf(t, 199, 199).and(of(sy(a), sy(b)))
	wantError(t, s, x, api.ErrTooMany)
}
