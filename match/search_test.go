package match_test

import (
	"slices"
	"strconv"
	"strings"
	"testing"

	"amalgam/api"
	"amalgam/match"
)

// A constant: against itself, against another term, wherever it stands.
func TestConstant(t *testing.T) {
	wantLines(t, "X = X", "")
	wantLines(t, "X = f(X,a)")
	wantLines(t, "f(X,a) = X")
	wantLines(t, "X = a; b = g(X)")
	wantLines(t, "f(X,Y) = f(X,X)", "Y -> X")
	wantLines(t, "f(X,Y) = f(Y,X)")
	wantLines(t, "f(X,Y) = f(Y,Z)") // Y is a constant, and not Z
	wantLines(t, "f(X,Z) = f(Y,Z)", "X -> Y")
	wantLines(t, "f(X,X) = f(Y,Y)", "X -> Y")
	wantLines(t, "f(_1,X) = f(_2,_1)")
	wantLines(t, "f(_1,X) = f(_1,_2)", "X -> _2")
	wantLines(t, "times(X,Y) = X", "Y -> one")
	wantLines(t, "times(X,Y) = times(X,X)", "Y -> X")
	wantLines(t, "times(X,one) = X", "")
	wantLines(t, "times(X,X) = X")
}

// One of the Vars: not bound, bound to the same term, bound to another one.
func TestVariable(t *testing.T) {
	wantLines(t, "X = a", "X -> a")
	wantLines(t, "X = Y", "X -> Y")
	wantLines(t, "X = plus(b,a,f(a,Y))", "X -> plus(a,f(a,Y),b)")
	wantLines(t, "X = times(one,Y,one)", "X -> Y")
	wantLines(t, "f(X,X) = f(a,a)", "X -> a")
	wantLines(t, "f(X,X) = f(a,b)")
	wantLines(t, "f(X,X) = f(plus(a,b),plus(b,a))", "X -> plus(a,b)")
	wantLines(t, "f(X,X) = f(plus(a,b),plus(b,b))")
	wantLines(t, "f(X,X) = f(times(a,one),a)", "X -> a")
	wantLines(t, "f(X,f(X,X)) = f(C,f(C,C))", "X -> C")
	wantLines(t, "f(X,f(X,X)) = f(C,f(C,D))")
	wantLines(t, "f(X,f(X,X)) = f(C,f(D,C))")
	wantLines(t, "f(X,g(X)) = f(g(a),g(g(a)))", "X -> g(a)")
	wantLines(t, "f(g(X),X) = f(g(a),g(a))")
}

// A pattern that is no variable, against a variable and against another symbol.
func TestUnlike(t *testing.T) {
	for _, line := range []string{
		"a = X", "a = b", "g(X) = Y", "g(X) = a", "g(X) = f(a,a)", "g(a) = plus(a,a)", "plus(X,Y) = Z", "plus(X,Y) = a", "plus(X,Y) = f(a,b)", "plus(X,Y) = times(a,b)", "plus(X,a) = a",
		"f(g(X),a) = f(Y,a)", "f(a,g(X)) = f(a,plus(a,a))", "times(X,g(Y)) = Z", "times(a,b) = sum(a,b)", "both(a,b) = times(a,b)", "times(a,a) = a", "times(X,a) = one",
	} {
		wantLines(t, line)
	}
}

// Free symbols, without and with arguments, which are matched from left to right.
func TestFree(t *testing.T) {
	wantLines(t, "a = a", "")
	wantLines(t, "g(a) = g(a)", "")
	wantLines(t, "g(a) = g(b)")
	wantLines(t, "f(X,Y) = f(a,b)", "X -> a, Y -> b")
	wantLines(t, "f(Y,X) = f(a,b)", "X -> b, Y -> a")
	wantLines(t, "f(f(X,a),g(Y)) = f(f(b,a),g(f(C,C)))", "X -> b, Y -> f(C,C)")
	wantLines(t, "f(f(X,a),g(Y)) = f(f(a,b),g(f(C,C)))")
	wantLines(t, "f(f(X,a),g(X)) = f(f(b,a),g(b))", "X -> b")
	s := unitFirst()
	wantMany(t, s, of(sy(2, v("X"), v("Y"), v("X")), sy(2, sy(0), sy(1, sy(0), sy(0)), sy(0))), [][]api.Bind{{bind("X", sy(0)), bind("Y", sy(1, sy(0), sy(0)))}}, api.OK)
	wantMany(t, s, of(sy(2, v("X"), v("Y"), v("X")), sy(2, sy(0), sy(0), sy(1, sy(0), sy(0)))), nil, api.OK)
}

// twice is a line of plus, which is AC, and the same line of both, which is ACU.
func twice(line string) []string { return []string{line, strings.ReplaceAll(line, "plus", "both")} }

// Under an AC and an ACU symbol: constants and bound variables are taken out, of which the subject may not have all.
func TestTakenOut(t *testing.T) {
	for _, line := range twice("plus(C,X) = plus(C,a)") {
		wantLines(t, line, "X -> a")
	}
	for _, line := range twice("plus(C,C,X) = plus(a,C,C,C)") {
		wantLines(t, line, strings.ReplaceAll("X -> plus(C,a)", "plus", line[:4]))
	}
	for _, line := range slices.Concat(twice("plus(C,C,X) = plus(C,a)"), twice("f(plus(C,X),b) = f(plus(a,a),C)"), twice("f(plus(C,D,X),b) = f(plus(C,a,a),D)")) {
		wantLines(t, line)
	}
	for _, line := range slices.Concat(twice("f(X,plus(X,Y)) = f(a,plus(b,a))"), twice("f(X,plus(X,X,Y)) = f(a,plus(a,b,a))"), twice("f(X,plus(Y,X)) = f(plus(a,a),plus(b,a,a))")) {
		if l, e := match.Many(example(), read(t, line).p, read(t, line).t); e != api.OK || len(l) != 1 || toldBinds(l[0][1:]) != toldBinds(binds(t, "Y -> b")) {
			t.Errorf("%s: %s, %d", line, toldLists(l), e)
		}
	}
	for _, line := range slices.Concat(twice("f(X,plus(X,Y)) = f(a,plus(b,b))"), twice("f(X,plus(X,X,Y)) = f(a,plus(b,b,a))"), twice("f(X,plus(X,Y)) = f(plus(a,a),plus(b,b,a))"), twice("f(X,plus(X,a)) = f(plus(a,b),plus(a,b))")) {
		wantLines(t, line)
	}
	// All is taken out of both sides, or of one alone.
	wantLines(t, "plus(C,D) = plus(D,C)", "")
	wantLines(t, "plus(C,D) = plus(D,C,C)")
	wantLines(t, "f(X,f(Y,plus(X,Y))) = f(a,f(b,plus(b,a)))", "X -> a, Y -> b")
	wantLines(t, "f(X,f(Y,plus(X,Y))) = f(a,f(b,plus(b,b)))")
	wantLines(t, "f(X,f(Y,plus(X,Y))) = f(a,f(b,plus(b,a,C)))")
	wantLines(t, "f(X,f(Y,plus(X,Y))) = f(plus(a,a),f(plus(b,C),plus(C,b,a,a)))", "X -> plus(a,a), Y -> plus(C,b)")
	wantLines(t, "f(X,f(Y,plus(X,Y,Z))) = f(a,f(b,plus(b,a)))")
	// What a variable is bound to under another symbol is one argument here.
	wantLines(t, "f(X,plus(X,Y)) = f(times(a,b),plus(a,times(a,b)))", "X -> times(a,b), Y -> a")
	wantLines(t, "f(X,plus(X,Y)) = f(times(a,b),plus(a,b))")
	// Bound within the same sum: as soon as the one argument is matched the other one is taken out.
	wantLines(t, "plus(g(X),X,Y) = plus(g(a),a,b)", "X -> a, Y -> b")
	wantLines(t, "plus(g(X),X,Y) = plus(g(a),g(b),b,C)", "X -> b, Y -> plus(C,g(a))")
	wantLines(t, "plus(g(X),X) = plus(g(plus(a,b)),a,b)", "X -> plus(a,b)")
	wantLines(t, "plus(g(X),X) = plus(g(plus(a,b)),a,a)")
}

// An argument that is no variable, among several of the subject, alike ones and others; several such arguments.
func TestTriedEach(t *testing.T) {
	wantLines(t, "plus(a,X) = plus(a,b)", "X -> b")
	wantLines(t, "plus(a,X) = plus(a,a,a)", "X -> plus(a,a)")
	wantLines(t, "plus(a,X) = plus(b,b)")
	wantLines(t, "plus(a,a) = plus(a,a)", "")
	wantLines(t, "plus(a,a) = plus(a,b)")
	wantLines(t, "plus(a,b) = plus(b,a)", "")
	wantLines(t, "plus(a,b) = plus(b,a,a)")
	wantLines(t, "plus(a,b,b) = plus(b,a)")
	wantLines(t, "plus(g(X),Y) = plus(g(a),g(a))", "X -> a, Y -> g(a)")
	wantLines(t, "plus(g(X),Y) = plus(g(a),g(b),C)", "X -> a, Y -> plus(C,g(b))", "X -> b, Y -> plus(C,g(a))")
	wantLines(t, "plus(g(X),g(Y)) = plus(g(a),g(b))", "X -> a, Y -> b", "X -> b, Y -> a")
	wantLines(t, "plus(g(X),g(Y)) = plus(g(a),g(a))", "X -> a, Y -> a")
	wantLines(t, "plus(g(X),g(X)) = plus(g(a),g(b))")
	wantLines(t, "plus(g(X),g(X),Y) = plus(g(a),g(b),g(b))", "X -> b, Y -> g(a)")
	wantLines(t, "plus(g(X),g(Y)) = plus(g(a),g(b),g(b))")
	wantLines(t, "plus(f(X,Y),g(X)) = plus(g(a),f(a,b))", "X -> a, Y -> b")
	wantLines(t, "plus(f(X,Y),g(X)) = plus(g(b),f(a,b))")
	wantLines(t, "plus(times(X,a),Y) = plus(times(a,b),times(a,C),b)", "X -> C, Y -> plus(times(a,b),b)", "X -> b, Y -> plus(times(C,a),b)")
	// The others are one, and the argument that is tried is one: both stand alone.
	wantLines(t, "f(X,plus(X,g(Y))) = f(a,plus(g(b),a))", "X -> a, Y -> b")
	wantLines(t, "f(X,plus(X,g(Y))) = f(a,plus(g(b),g(b),a))")
	wantLines(t, "f(X,plus(X,g(Y),g(Z))) = f(a,plus(g(b),a))")
	wantLines(t, "f(X,plus(X,g(Y))) = f(plus(a,b),plus(a,b))")
}

// One variable alone: its number divides each of the subject's, or it doesn't.
func TestOneVariable(t *testing.T) {
	for _, x := range []struct{ line, want string }{
		{"plus(X,X) = plus(a,a)", "X -> a"},
		{"plus(X,X) = plus(a,a,b,b)", "X -> plus(a,b)"},
		{"plus(X,X) = plus(a,a,a,a)", "X -> plus(a,a)"},
		{"plus(X,X,X) = plus(b,a,b,a,b,a,a,a,a)", "X -> plus(a,a,b)"},
		{"plus(C,X,X) = plus(a,C,a)", "X -> a"},
		{"plus(C,X) = plus(C,a,b,f(a,a),g(a),g(b),g(C))", "X -> plus(a,f(a,a),b,g(C),g(a),g(b))"},
		{"plus(C,X) = plus(C,a,a,a,a,a,a,a,a)", "X -> plus(a,a,a,a,a,a,a,a)"},
	} {
		wantLines(t, x.line, x.want)
		wantLines(t, strings.ReplaceAll(x.line, "plus", "both"), strings.ReplaceAll(x.want, "plus", "both"))
	}
	for _, line := range slices.Concat(twice("plus(X,X) = plus(a,b)"), twice("plus(X,X) = plus(a,a,b)"), twice("plus(X,X) = plus(a,a,a)"), twice("plus(X,X,X) = plus(a,a)"), twice("plus(X,X,X) = plus(a,a,a,b,b)")) {
		wantLines(t, line)
	}
	// Of a great number, far beyond split's.
	wantMany(t, example(), of(sy(plus, many(100, v("X"))...), sy(plus, append(many(200, sy(a)), many(100, sy(b))...)...)), lists(t, "X -> plus(a,a,b)"), api.OK)
	wantMany(t, example(), of(sy(plus, many(100, v("X"))...), sy(plus, append(many(200, sy(a)), many(99, sy(b))...)...)), nil, api.OK)
	// Nothing is left for it.
	wantLines(t, "f(Y,plus(X,Y)) = f(plus(a,b),plus(a,b))")
	wantLines(t, "f(Y,times(X,Y)) = f(times(a,b),times(a,b))", "X -> one, Y -> times(a,b)")
}

// Several variables share the subject's arguments; none goes away with nothing.
func TestSeveralVariables(t *testing.T) {
	wantLines(t, "plus(X,Y) = plus(a,a)", "X -> a, Y -> a")
	wantLines(t, "plus(X,Y,Z) = plus(a,a)")
	wantLines(t, "plus(X,X,Y) = plus(a,a,a)", "X -> a, Y -> a")
	wantLines(t, "plus(X,X,Y) = plus(a,a,b,a)", "X -> a, Y -> plus(a,b)")
	wantLines(t, "plus(X,X,Y,Y) = plus(a,a,b,b)", "X -> a, Y -> b", "X -> b, Y -> a")
	wantLines(t, "plus(X,X,Y,Y) = plus(a,a,a,b)")
	wantLines(t, "f(Z,plus(X,Y,Z)) = f(plus(a,b),plus(b,a))")
	wantLines(t, "f(Z,plus(X,Y,Z)) = f(plus(a,b),plus(b,a,C))")
	wantLines(t, "f(Z,plus(X,Y,Z)) = f(plus(a,b),plus(b,a,C,C))", "X -> C, Y -> C, Z -> plus(a,b)")
	wantLines(t, "plus(X,Y,g(Z)) = plus(a,b,g(C))", "X -> a, Y -> b, Z -> C", "X -> b, Y -> a, Z -> C")
}

// Variables that are units: of one symbol, of several, of symbols that share one.
func TestUnits(t *testing.T) {
	wantLines(t, "times(X,Y) = one", "X -> one, Y -> one")
	wantLines(t, "times(X,X) = one", "X -> one")
	wantLines(t, "times(X,X) = a")
	wantLines(t, "times(X,a) = a", "X -> one")
	wantLines(t, "times(X,a) = one")
	wantLines(t, "times(X,a) = times(a,b)", "X -> b")
	wantLines(t, "times(X,Y) = times(a,b)", "X -> a, Y -> b", "X -> one, Y -> times(a,b)", "X -> times(a,b), Y -> one", "X -> b, Y -> a")
	wantLines(t, "times(X,C) = C", "X -> one")
	wantLines(t, "f(times(X,Y),X) = f(a,one)", "X -> one, Y -> a")
	wantLines(t, "f(times(X,Y),X) = f(a,a)", "X -> a, Y -> one")
	wantLines(t, "f(times(X,Y),X) = f(a,b)")
	wantLines(t, "g(times(X,X)) = g(one)", "X -> one")
	wantLines(t, "times(X,plus(Y,a)) = plus(a,b)", "X -> one, Y -> b")
	wantLines(t, "times(X,sum(Y,a)) = a", "X -> one, Y -> zero")
	wantLines(t, "times(X,sum(Y,Z)) = one", "X -> one, Y -> one, Z -> zero", "X -> one, Y -> zero, Z -> one")
	wantLines(t, "times(X,sum(Y,Y)) = zero", "X -> one, Y -> zero")
	wantLines(t, "times(X,both(X,a)) = a", "X -> one")
	wantLines(t, "times(X,both(Y,a)) = times(b,both(b,a))", "X -> b, Y -> b")
	wantLines(t, "times(X,both(Y,a)) = times(a,b)", "X -> b, Y -> one")
	wantLines(t, "times(X,both(Y,a)) = both(a,b)", "X -> one, Y -> b")
	// A unit that no symbol of the pattern has is a constant as any other.
	wantLines(t, "plus(X,Y) = plus(zero,one)", "X -> one, Y -> zero", "X -> zero, Y -> one")
	wantLines(t, "plus(X,Y) = one")
	wantLines(t, "f(X,X) = f(one,times(one,one))", "X -> one")
	// Where a symbol stands that has the unit, but not above the variable, its binds are found once.
	wantLines(t, "f(X,times(Y,a)) = f(one,times(a,b))", "X -> one, Y -> b")
	wantLines(t, "f(X,times(X,a)) = f(one,a)", "X -> one")
	wantLines(t, "f(times(Y,a),X) = f(a,one)", "X -> one, Y -> one")
	wantLines(t, "f(X,times(Y,a)) = f(zero,times(a,zero))", "X -> zero, Y -> zero")
	s := unitFirst()
	wantMany(t, s, of(sy(3, v("X"), v("Y")), v("C")), [][]api.Bind{{bind("X", v("C")), bind("Y", sy(0))}, {bind("X", sy(0)), bind("Y", v("C"))}}, api.OK)
	wantMany(t, s, of(sy(3, v("X"), v("X")), sy(0)), [][]api.Bind{{bind("X", sy(0))}}, api.OK)
}

// TestTwoUnits: the example of two ACU symbols, of which the one's unit is an argument of the other one.
func TestTwoUnits(t *testing.T) {
	s := append(document(), api.Symbol{Name: "dot", Kind: api.ACU, Arity: 2, Unit: "a"})
	x, y, z := v("X"), v("Y"), v("Z")
	wantMany(t, s, of(sy(4, sy(5, x, y), z), sy(a)), lists(t, "X -> a, Y -> a, Z -> one", "X -> a, Y -> one, Z -> a", "X -> one, Y -> a, Z -> a"), api.OK)
	wantMany(t, s, of(sy(4, sy(5, x, sy(a)), sy(one)), sy(4, sy(a), sy(a))), lists(t, "X -> times(a,a)"), api.OK)
	// The units of a pattern count for the other patterns' variables, too.
	wantMany(t, s, of(sy(4, x, sy(a)), sy(a), sy(5, y, sy(one)), sy(one)), lists(t, "X -> one, Y -> a"), api.OK)
}

// wantMade: how many states there are, and how many are made when the first leaf is taken up, counted by the chapter's words; with as many more ahead as there may be all is found, with one more it is not.
func wantMade(t *testing.T, line string, made, ahead int) {
	t.Helper()
	x := read(t, line)
	y := again(example(), x)
	if y.ways != 1 || y.made != made || y.madeAhead != ahead || y.e != api.OK {
		t.Errorf("%s: %d ways, %d states, %d ahead of the first leaf, %d; want %d, %d", line, y.ways, y.made, y.madeAhead, y.e, made, ahead)
	}
	wantMadeBy(t, example(), x, y)
}

func wantMadeBy(t *testing.T, s api.Signature, x problem, y *tally) {
	t.Helper()
	wantMany(t, s, steps(s, 20000-y.made).and(x), y.list, api.OK)
	wantMany(t, s, steps(s, 20001-y.made).and(x), nil, api.ErrTooMany)
	if y.leaves == 0 {
		wantFirst(t, s, steps(s, 20000-y.made).and(x), nil, false, api.OK)
		wantFirst(t, s, steps(s, 20001-y.made).and(x), nil, false, api.ErrTooMany)
		return
	}
	wantFirst(t, s, steps(s, 20000-y.madeAhead).and(x), y.first, true, api.OK)
	wantFirst(t, s, steps(s, 20001-y.madeAhead).and(x), nil, false, api.ErrTooMany)
}

// Which children a state has, told by how many states there are.
func TestStates(t *testing.T) {
	for _, x := range []struct {
		line        string
		made, ahead int
	}{
		{"X = X", 2, 2},
		{"X = a; b = X", 1, 0},
		{"X = a", 2, 2},
		{"a = b", 1, 0},
		{"g(X) = C", 1, 0},
		{"g(X) = a", 1, 0},
		{"a = a", 2, 2},
		{"g(a) = g(a)", 3, 3},
		{"f(X,X) = f(a,a)", 4, 4},
		{"f(X,X) = f(a,b)", 3, 0},
		{"X = a; f(Y,b) = f(C,b); Z = Z", 6, 6},
		{"plus(C,D) = plus(D,C)", 2, 2},
		{"plus(C,C) = plus(D,C)", 1, 0},
		{"plus(C,C,X) = plus(C,a,a)", 1, 0},
		{"plus(C,X) = plus(C,a,b)", 2, 2},
		{"plus(X,X) = plus(a,b)", 1, 0},
		{"plus(X,X) = plus(a,a,b,b)", 2, 2},
		{"plus(X,Y) = plus(a,a,one)", 5, 5},
		{"plus(X,Y,Z) = plus(a,a)", 1, 0},
		{"f(Z,plus(X,Y,Z)) = f(plus(a,b),plus(b,a))", 3, 0},
		{"f(plus(X,Y),plus(X,Z)) = f(plus(a,b),plus(a,C))", 5, 5},    // both ways of the first sum; of the one the other sum has not what X gives
		{"f(plus(X,Y),plus(Y,Z)) = f(plus(a,b),plus(a,b))", 6, 5},    // and here it has
		{"plus(a,X) = plus(a,b)", 5, 5},                              // a against a and against b
		{"plus(a,X) = plus(a,a,a)", 4, 4},                            // against a once
		{"plus(a,X) = plus(b,b)", 2, 0},                              // against b once
		{"plus(a,a) = plus(a,b)", 4, 0},                              // against both; behind the first a the other one against b
		{"plus(a,b) = plus(a,b,b)", 4, 0},                            // against both; behind the first b stands alone against two
		{"plus(a,b,X) = plus(a,b)", 4, 0},                            // b is left alone, but not in the pattern
		{"f(X,plus(X,a)) = f(C,plus(C,a))", 5, 5},                    // no others on either side
		{"f(X,plus(X,a)) = f(C,plus(C,a,b))", 3, 0},                  // others in the subject alone: none is tried
		{"f(X,plus(X,a,b)) = f(C,plus(C,a))", 3, 0},                  // in the pattern alone
		{"plus(g(X),g(Y)) = plus(g(a),g(b))", 11, 7},                 // against both; each time the other one, too
		{"plus(g(X),f(X,Y)) = plus(g(a),f(a,b))", 8, 8},              // f is tried first, being the less one
		{"plus(g(X),X,Y) = plus(g(a),g(b),b,C)", 10, 10},             // against all four; the first leads to a sum without a
		{"plus(g(X),Y) = plus(g(a),g(a),g(b))", 9, 6},                // against unlike ones alone
		{"f(plus(X,Y),plus(Z,W)) = f(plus(a,b),plus(a,a,b))", 12, 8}, // children of the second sum beneath each of the first
	} {
		wantMade(t, x.line, x.made, x.ahead)
	}
}

// The same of any problems of one way, and of some ways where that can be told.
func TestStatesOfAny(t *testing.T) {
	for i, s := range signatures() {
		m := newMaker(int64(910 + i))
		met, leaves := 0, 0
		for range 600 {
			x := m.problem(s, 1+m.Intn(3), 9, 3)
			y := again(s, x)
			if y.e != api.OK || y.ways > 1 || y.made < 4 {
				continue
			}
			wantMadeBy(t, s, x, y)
			leaves += y.leaves
			if met++; met == 15 {
				break
			}
		}
		if met < 15 || leaves < 8 {
			t.Errorf("signature %d: only %d problems, %d leaves", i, met, leaves)
		}
	}
}

// TestStatesOfAllWays: they are counted on from way to way; a root is made when its way begins.
func TestStatesOfAllWays(t *testing.T) {
	s := example()
	for _, x := range []struct {
		line       string
		ways, made int
		leaves     int
	}{
		{"f(times(X,Y),a) = a", 4, 4, 0},
		{"g(times(X,X)) = g(one)", 2, 5, 1},             // X is no unit: the sum against one; X is one: one against one
		{"f(X,times(X,a)) = f(one,a)", 2, 7, 1},         // X is bound to one, and the sum is none; X is one
		{"f(X,times(Y,a)) = f(one,a)", 4, 14, 2},        // X is bound to one or is one; as long as Y is one there is a leaf
		{"times(X,sum(Y,a)) = a", 9, 10, 1},             // of nine roots one alone has a child
		{"f(times(X,Y),b) = f(times(a,b),b)", 4, 16, 4}, // two ways to share a and b; one alone has all; both are one, and nothing is left of the sum
	} {
		y := again(s, read(t, x.line))
		if y.ways != x.ways || y.made != x.made || y.leaves != x.leaves || y.e != api.OK {
			t.Errorf("%s: %d ways, %d states, %d leaves, %d", x.line, y.ways, y.made, y.leaves, y.e)
		}
		wantAgain(t, s, read(t, x.line))
	}
	// Just 20000 and 20001: 4 ways, 14 states and n more ahead in each, and m more behind each of 2 leaves.
	x := read(t, "f(X,times(Y,a)) = f(one,a)")
	for _, n := range []struct {
		ahead, behind int
		e             api.Errno
	}{{4996, 1, api.OK}, {4996, 2, api.ErrTooMany}, {4997, 0, api.ErrTooMany}, {4995, 3, api.OK}} {
		padded := steps(s, n.ahead).and(x).and(steps(s, n.behind))
		if y := wantAgain(t, s, padded); y.e != n.e || n.e == api.OK && y.made != 20000 {
			t.Errorf("%d ahead, %d behind: %d states, %d", n.ahead, n.behind, y.made, y.e)
		}
	}
}

// Any problems, of all ways.
func TestAgain(t *testing.T) {
	for i, s := range signatures() {
		m := newMaker(int64(920 + i))
		var leaves, none, several, double, failed, later int
		for j := range 3000 {
			x := m.problem(s, 1+m.Intn(3), 3+j%10, 1+m.Intn(5))
			y := wantAgain(t, s, x)
			if t.Failed() {
				return
			}
			switch {
			case y.e != api.OK:
				failed++
			case len(y.list) == 0:
				none++
			case len(y.list) > 1:
				several++
			}
			leaves += y.leaves
			if y.e == api.OK && len(y.list) < y.leaves {
				double++
			}
			if y.leaves > 0 && y.madeAhead > y.ways && y.ways > 1 {
				later++
			}
		}
		if leaves < 2000 || none < 300 || several < 150 || failed == 0 && i < 2 || double < 20 && i < 3 || later < 20 && i < 3 {
			t.Errorf("signature %d: %d leaves, %d without, %d with several, %d with the same again, %d failed, %d in a later way", i, leaves, none, several, double, failed, later)
		}
	}
}

// TestLargeTerms: problems as great as they may be.
func TestLargeTerms(t *testing.T) {
	s := example()
	// Each argument is found among a hundred.
	wantMany(t, s, of(sy(plus, append(apart(100), v("X"))...), sy(plus, append(apart(100), many(199, sy(b))...)...)), [][]api.Bind{{bind("X", sy(plus, many(199, sy(b))...))}}, api.OK)
	var x problem
	for _, y := range apart(80) {
		x = x.and(of(sy(plus, v("X"), y), sy(plus, sy(b), y)))
	}
	wantMany(t, s, x, lists(t, "X -> b"), api.OK)
	// Many variables: each pattern makes 399 states.
	x = problem{}
	var want []api.Bind
	for range 50 {
		p, q := sy(a), sy(a)
		for range 199 {
			name, value := "V"+strconv.Itoa(10000+len(want)), sy(len(want)%2*b)
			p, q = sy(f, v(name), p), sy(f, value, q)
			want = append(want, bind(name, value))
		}
		x = x.and(of(p, q))
	}
	wantMany(t, s, x, [][]api.Bind{want}, api.OK)
	wantFirst(t, s, x, want, true, api.OK)
	wantMany(t, s, x.and(of(tower(49, sy(a)), tower(49, sy(a)))), [][]api.Bind{want}, api.OK)
	wantMany(t, s, x.and(of(tower(50, sy(a)), tower(50, sy(a)))), nil, api.ErrTooMany)
}
