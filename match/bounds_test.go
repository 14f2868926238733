package match_test

import (
	"strconv"
	"strings"
	"testing"

	"amalgam/api"
	"amalgam/match"
)

// Just as many ways as MaxWays, and more.
func TestWays(t *testing.T) {
	s := example()
	names := strings.Split("ABCDEFGHIJKLM", "")
	twelve, thirteen := strings.Join(names[:12], ","), strings.Join(names, ",")
	// 2 to the 12 are 4096: of each way the root; a child, if one variable at most is no unit.
	x := read(t, "times("+twelve+") = one")
	if y := wantAgain(t, s, x); y.ways != 4096 || y.made != 4109 || y.leaves != 13 || len(y.list) != 1 || y.e != api.OK {
		t.Errorf("%d ways, %d states, %d leaves, %d", y.ways, y.made, y.leaves, y.e)
	}
	for _, line := range []string{"times(" + thirteen + ") = one", "f(times(" + thirteen + "),a) = a", "f(" + names[12] + ",times(" + twelve + ")) = f(a,a)", names[12] + " = a; times(" + twelve + ") = a"} {
		wantError(t, s, read(t, line), api.ErrTooMany)
	}
	// A constant is none of the Vars, and without a symbol that has a unit there is one way alone.
	wantMany(t, s, read(t, "f(times("+thirteen+"),a) = f(M,b)"), nil, api.OK)
	wantLines(t, "f(A,f(B,f(C,f(D,f(E,f(F,f(G,f(H,f(I,f(J,f(K,f(L,M)))))))))))) = f(a,f(a,f(a,f(a,f(a,f(a,f(a,f(a,f(a,f(a,f(a,f(a,one))))))))))))",
		"A -> a, B -> a, C -> a, D -> a, E -> a, F -> a, G -> a, H -> a, I -> a, J -> a, K -> a, L -> a, M -> one")
	// 3 to the 7 are fewer than 4096, 3 to the 8 are more.
	wantMany(t, s, read(t, "f(times(A,B,C,D),sum(E,F,G)) = a"), nil, api.OK)
	wantError(t, s, read(t, "f(times(A,B,C,D),sum(E,F,G,H)) = a"), api.ErrTooMany)
	// Units are counted once, whether in one pattern or in several.
	wantMany(t, s, read(t, "f(times("+twelve+"),both(A,B)) = a"), nil, api.OK)
	wantMany(t, s, read(t, "times("+twelve+") = a; both(A,B) = zero; times(A,C) = b"), nil, api.OK)
	wantError(t, s, read(t, "times("+twelve+") = a; both(A,B) = zero; sum(A,C) = b"), api.ErrTooMany)
}

// TestWaysOfPatternsAlone: a symbol that stands in a subject alone gives no unit.
func TestWaysOfPatternsAlone(t *testing.T) {
	s := example()
	for _, subject := range []string{"times(a,b)", "sum(a,b)", "one"} {
		x := read(t, "f(A,f(B,f(C,f(D,f(E,f(F,f(G,f(H,f(I,f(J,f(K,f(L,M)))))))))))) = f(a,f(a,f(a,f(a,f(a,f(a,f(a,f(a,f(a,f(a,f(a,f(a,"+subject+"))))))))))))")
		if y := wantAgain(t, s, x); y.ways != 1 || y.e != api.OK || len(y.list) != 1 {
			t.Errorf("%s: %d ways, %d answers, %d", subject, y.ways, len(y.list), y.e)
		}
	}
}

// TestMoreWaysThanNumbers: that it is too many is told soon, however many ways there are.
func TestMoreWaysThanNumbers(t *testing.T) {
	var l []api.Term
	for i := range 300 {
		l = append(l, v("V"+strconv.Itoa(i)))
	}
	wantError(t, example(), of(sy(times, l...), sy(a), sy(sum, l...), sy(a)), api.ErrTooMany)
	wantError(t, example(), of(v("X"), sy(a), sy(times, l...), sy(a)), api.ErrTooMany)
}

// Just as many states as MaxWalk, and more: of one sum's children, of a long way down, of many ways.
func TestWalk(t *testing.T) {
	s := example()
	// A root and 19999 more, or 20000.
	x := of(sy(a), sy(a))
	for _, n := range []struct {
		ahead int
		e     api.Errno
	}{{19997, api.OK}, {19998, api.OK}, {19999, api.ErrTooMany}, {25000, api.ErrTooMany}} {
		if y := wantAgain(t, s, steps(s, n.ahead).and(x)); y.e != n.e || n.e == api.OK && y.made != n.ahead+2 {
			t.Errorf("%d ahead: %d states, %d", n.ahead, y.made, y.e)
		}
	}
	// A sum of five kinds, six times each, has more children than anyone can go through.
	kinds := []api.Term{sy(a), sy(b), sy(one), v("U"), v("V")}
	for _, n := range []struct{ kinds, often, takers int }{{5, 6, 5}, {4, 6, 3}, {5, 3, 3}, {4, 4, 4}} {
		p, q := sy(plus), sy(plus)
		for i := range n.takers {
			p.Args = append(p.Args, v(string(rune('A'+i))))
		}
		for i := range n.kinds {
			q.Args = append(q.Args, many(n.often, kinds[i])...)
		}
		wantError(t, s, of(p, q), api.ErrTooMany)
		// No children at all are asked for where nothing comes to the sum.
		wantMany(t, s, of(sy(a), sy(b), p, q), nil, api.OK)
	}
}

// TestWalkOfASum: the children of one sum alone come to the limit, and are all dead ends but few.
func TestWalkOfASum(t *testing.T) {
	s := example()
	// 7 to the 5, less the two in which one side has nothing: 16805 ways.
	x := of(sy(plus, v("X"), v("Y")), sy(plus, repeated(6, sy(a), sy(b), sy(one), sy(zero), v("C"))...), v("X"), sy(a))
	if y := again(s, x); y.made != 1+16805+1 || y.leaves != 1 || y.e != api.OK {
		t.Fatalf("%d states, %d leaves, %d", y.made, y.leaves, y.e)
	}
	y := wantAgain(t, s, steps(s, 20000-16807).and(x))
	if y.made != 20000 || y.e != api.OK || len(y.list) != 1 {
		t.Errorf("%d states, %d answers, %d", y.made, len(y.list), y.e)
	}
	y = wantAgain(t, s, steps(s, 20001-16807).and(x))
	if y.e != api.ErrTooMany {
		t.Errorf("%d states, %d", y.made, y.e)
	}
	// First finds its leaf only when all the children of the sum are made.
	wantFirst(t, s, steps(s, 20001-16806).and(of(x.p[0], x.t[0])), nil, false, api.ErrTooMany)
	if b, is, e := match.First(s, append(steps(s, 20000-16806).p, x.p[0]), append(steps(s, 20000-16806).t, x.t[0])); !is || e != api.OK || len(b) != 2 {
		t.Errorf("%s, %v, %d", toldBinds(b), is, e)
	}
}

// repeated are some terms, each so often.
func repeated(n int, l ...api.Term) []api.Term {
	var all []api.Term
	for _, x := range l {
		all = append(all, many(n, x)...)
	}
	return all
}

// matchersOf is a problem of just so many matchers, each factor a sum of its own.
func matchersOf(t *testing.T, factors ...int) problem {
	t.Helper()
	var x problem
	for i, n := range factors {
		at := string(rune('A' + i))
		p := sy(plus, sy(g, v("X"+at)), v("Y"+at))
		x = x.and(of(p, sy(plus, apart(n)...)))
	}
	return x
}

// Just as many matchers as MaxMatchers, and more.
func TestMatchers(t *testing.T) {
	s := example()
	for _, n := range []struct {
		factors []int
		e       api.Errno
	}{
		{[]int{199}, api.OK}, {[]int{2, 100}, api.OK}, {[]int{4, 5, 10}, api.OK}, {[]int{3, 67}, api.ErrTooMany}, {[]int{67, 3}, api.ErrTooMany}, {[]int{199, 2}, api.ErrTooMany}, {[]int{101, 2}, api.ErrTooMany},
	} {
		x := matchersOf(t, n.factors...)
		product := 1
		for _, k := range n.factors {
			product *= k
		}
		y := wantAgain(t, s, x)
		if y.e != n.e || y.leaves != product || y.made > 20000 {
			t.Errorf("%v: %d states, %d leaves, %d", n.factors, y.made, y.leaves, y.e)
		}
	}
	// By sums that are dealt out: 4, 5 and 10.
	x := read(t, "plus(X,Y) = plus(a,a,b); plus(Z,W) = plus(a,a,a,a,a,a); plus(U,V) = plus(a,a,a,b,b)")
	if y := wantAgain(t, s, x); y.e != api.OK || len(y.list) != 200 {
		t.Errorf("%d answers, %d", len(y.list), y.e)
	}
}

// Matchers are counted once: many leaves may tell the same.
func TestMatchersAreCountedOnce(t *testing.T) {
	s := example()
	// One of the Vars is bound to one, or is one; the way's other variables are no units where there is a leaf.
	x := read(t, "f(A,times(C,D)) = f(one,times(C,D))").and(matchersOf(t, 199))
	if y := wantAgain(t, s, x); y.ways != 8 || y.e != api.OK || len(y.list) != 199 || y.leaves != 2*199 {
		t.Errorf("%d ways, %d leaves, %d answers, %d", y.ways, y.leaves, len(y.list), y.e)
	}
	x = read(t, "f(A,times(C,D)) = f(one,times(C,D))").and(matchersOf(t, 4, 50))
	if y := wantAgain(t, s, x); y.ways != 32 || y.e != api.OK || len(y.list) != 200 || y.leaves != 2*200 {
		t.Errorf("%d ways, %d leaves, %d answers, %d", y.ways, y.leaves, len(y.list), y.e)
	}
	x = read(t, "f(A,times(C,D)) = f(one,times(C,D))").and(matchersOf(t, 3, 67))
	if y := wantAgain(t, s, x); y.e != api.ErrTooMany || y.leaves != 2*201 || y.made > 20000 {
		t.Errorf("%d leaves, %d states, %d", y.leaves, y.made, y.e)
	}
}

// Counts that split's Check refuses: of the subject's arguments, of the variables; too many of either.
func TestSplitRefuses(t *testing.T) {
	for _, line := range []string{
		"plus(X,Y) = plus(a,a,a,a,a,a,a,b)",
		"plus(X,Y) = plus(a,a,a,a,a,a,a)",
		"plus(X,X,X,X,X,X,X,Y) = plus(a,b)",
		"plus(X,Y) = plus(a,b,g(a),zero,C,D)",
		"plus(U,V,W,X,Y,Z) = plus(a,b)",
		"plus(U,V,W,X,Y,Z) = plus(a,b,g(a),zero,C,D)",
		"g(plus(X,Y)) = g(plus(a,a,a,a,a,a,a))",
		"plus(g(Z),X,Y) = plus(g(a),a,a,a,a,a,a,a)",
		"plus(X,Y,C) = plus(a,a,a,a,a,a,a,C)",
		"f(Z,plus(Z,U,V,W,X,Y,Q)) = f(plus(a,b),plus(a,b))", // nothing is left for them, and they are too many all the same
	} {
		for _, line := range twice(line) {
			wantError(t, example(), read(t, line), api.ErrTooMany)
		}
	}
	for _, line := range []string{
		"plus(X,Y) = plus(a,a,a,a,a,a,b)",
		"plus(X,X,X,X,X,X,Y) = plus(a,a,a,a,a,a,b)",
		"plus(X,Y) = plus(a,b,one,zero,C)",
		"plus(V,W,X,Y,Z) = plus(a,b,one,zero,C)",
		"plus(X,X) = plus(a,a,a,a,a,a,a,a)",                     // one variable alone has no limit
		"plus(X,C) = plus(a,b,one,zero,C,D,U,V)",                // of kinds, either
		"a = b; plus(X,Y) = plus(a,a,a,a,a,a,a)",                // nothing comes to the sum
		"plus(X,Y,C,C) = plus(a,a,a,a,a,a,a,C)",                 // C is not there so often
		"f(b,plus(X,Y)) = f(a,plus(a,a,a,a,a,a,a))",             // an argument ahead is another one
		"plus(X,Y,b) = plus(a,a,a,a,a,a,a,one)",                 // b is not among them
		"f(X,f(Y,plus(X,Y,Z))) = f(a,f(b,plus(a,b,C,D,U,V,W)))", // two of them are known
	} {
		if y := wantAgain(t, example(), read(t, line)); y.e != api.OK {
			t.Errorf("%s: %d", line, y.e)
		}
	}
	// In one of the ways alone: as long as X and Y are no units.
	wantError(t, example(), read(t, "both(X,Y) = both(a,a,a,a,a,a,a)"), api.ErrTooMany)
	wantMany(t, example(), read(t, "f(Y,both(X,Y)) = f(one,both(a,a,a,a,a,a,a))"), lists(t, "X -> both(a,a,a,a,a,a,a), Y -> one"), api.OK)
}

// TestFailsInALaterWay: Many does not tell the answers of the ways ahead, but First does.
func TestFailsInALaterWay(t *testing.T) {
	// Only where Z is one the sum of X and Y is held against that of seven.
	x := read(t, "plus(g(times(Z,plus(X,Y))),W) = plus(g(times(a,plus(b,b))),g(plus(a,a,a,a,a,a,a)))")
	if y := again(example(), x); y.e != api.ErrTooMany || y.ways != 16 || y.leaves != 1 {
		t.Errorf("%d ways, %d leaves, %d", y.ways, y.leaves, y.e)
	}
	wantMany(t, example(), x, nil, api.ErrTooMany)
	wantFirst(t, example(), x, binds(t, "W -> g(plus(a,a,a,a,a,a,a)), X -> b, Y -> b, Z -> a"), true, api.OK)
	// No way ahead has an answer.
	wantError(t, example(), read(t, "f(A,both(Z,plus(X,Y))) = f(b,plus(a,a,a,a,a,a,a))"), api.ErrTooMany)
}
