package solve_test

import (
	"testing"

	"amalgam/api"
	"amalgam/solve"
)

// Top, Made and Answer: before it is through, once it is through well.
func TestWhatIsTold(t *testing.T) {
	m := machine(t, "plus(X,Y) = plus(a,b)")
	none := func(what string) {
		t.Helper()
		l, e := m.Answer()
		wantAnswer(t, what, l, e, nil, api.OK)
	}
	wantTop(t, "at once", m, read(t, "plus(X,Y) = plus(a,b)", "", 0))
	wantMade(t, "at once", m, 1, 1)
	none("at once")
	for i, want := range []struct {
		top       api.State
		made, lie int
	}{
		{read(t, "X = _2; Y = _1; a = _1; b = _2", "", 2), 3, 2},
		{read(t, "Y = _1; a = _1; b = X", "_2 -> X", 2), 4, 2},
		{read(t, "a = Y; b = X", "_1 -> Y, _2 -> X", 2), 5, 2},
		{read(t, "b = X", "Y -> a, _1 -> a, _2 -> X", 2), 6, 2},
		{read(t, "", "X -> b, Y -> a, _1 -> a, _2 -> b", 2), 7, 2},
		{read(t, "X = _2; Y = _1; a = _2; b = _1", "", 2), 7, 1},
		{read(t, "Y = _1; a = X; b = _1", "_2 -> X", 2), 8, 1},
		{read(t, "a = X; b = Y", "_1 -> Y, _2 -> X", 2), 9, 1},
		{read(t, "b = Y", "X -> a, _1 -> Y, _2 -> a", 2), 10, 1},
		{read(t, "", "X -> a, Y -> b, _1 -> b, _2 -> a", 2), 11, 1},
	} {
		wantStep(t, "on the way", m, false)
		wantTop(t, "on the way", m, want.top)
		wantMade(t, "on the way", m, want.made, want.lie)
		none("behind " + string(rune('1'+i)) + " steps")
	}
	wantStep(t, "the last form", m, false)
	wantNoTop(t, "empty", m)
	wantMade(t, "empty", m, 11, 0)
	none("empty, and not through")
	wantStep(t, "the end", m, true)
	wantNoTop(t, "through", m)
	wantMade(t, "through", m, 11, 0)
	for range 2 {
		l, e := m.Answer()
		wantAnswer(t, "through", l, e, forms(t, "X -> b, Y -> a, _1 -> a, _2 -> b", "X -> a, Y -> b, _1 -> b, _2 -> a"), api.OK)
	}
}

// TestWhatIsToldOfAnError: once it is through by an error nothing is left, neither of the stack nor of what was found.
func TestWhatIsToldOfAnError(t *testing.T) {
	// One form is found ahead of the state whose sum is too great.
	m := machine(t, "plus(X,Y) = plus(a,g(Z)); plus(A,B,C,D,E,g(X)) = plus(g(a),F,G,H,I,J)")
	lay := 0
	for range enough {
		if m.Step() {
			break
		}
		_, n := m.Made()
		lay = max(lay, n)
		l, e := m.Answer()
		wantAnswer(t, "on the way", l, e, nil, api.OK)
	}
	if lay < 2 {
		t.Errorf("at most %d lay there", lay)
	}
	wantGivenUp(t, "a sum that is too great", m, madeOf(m))
}

// TestLookingChangesNothing: what is asked between the steps does not matter.
func TestLookingChangesNothing(t *testing.T) {
	m := newMaker(530)
	for range 100 {
		l := append(m.equations(example(), 2, 10, 4), m.sums(example(), 4))
		one, other := started(t, example(), l), started(t, example(), l)
		for range enough {
			look(one)
			one.Made()
			if x, y := one.Step(), other.Step(); x != y {
				t.Fatalf("%s: %v, %v", toldEquations(l), x, y)
			} else if x {
				break
			}
		}
		if look(one) != look(other) {
			t.Fatalf("%s: %s; %s", toldEquations(l), look(one), look(other))
		}
	}
}

func TestSolve(t *testing.T) {
	for _, x := range []struct {
		in   string
		want [][]api.Bind
	}{
		{"", [][]api.Bind{nil}},
		{"X = X", [][]api.Bind{nil}},
		{"a = b", nil},
		{"X = a; X = b", nil},
		{"X = a", forms(t, "X -> a")},
		{"Y = X; f(Y,Z) = f(Z,a)", forms(t, "X -> a, Y -> a, Z -> a")},
		{"plus(X,X) = plus(Y,Y,Y)", forms(t, "X -> plus(_1,_1,_1), Y -> plus(_1,_1)")},
		{"plus(X,a) = plus(Y,b)", forms(t, "X -> b, Y -> a, _1 -> a, _2 -> b", "X -> plus(_3,b), Y -> plus(_3,a), _1 -> a, _2 -> b")},
		{"plus(X,a) = plus(Y,Y)", forms(t, "X -> a, Y -> a, _1 -> a", "X -> plus(_2,_2,a), Y -> plus(_2,a), _1 -> a")},
		{"f(X,X) = f(plus(Y,a),plus(a,b))", forms(t, "X -> plus(a,b), Y -> b")},
		{"plus(X,Y) = plus(a,b); X = a", forms(t, "X -> a, Y -> b")},
		{"times(X,a) = a", nil},
		{"times(X,Y) = one", nil},
		{"times(X,a) = times(Y,one)", forms(t, "X -> one, Y -> a, _1 -> a, _2 -> one", "X -> times(_3,one), Y -> times(_3,a), _1 -> a, _2 -> one")},
		{"plus(X,f(Y,a)) = plus(f(b,Z),W)", forms(t, "W -> f(Y,a), X -> f(b,Z), _1 -> f(Y,a), _2 -> f(b,Z)", "X -> W, Y -> b, Z -> a, _1 -> f(b,a), _2 -> W", "W -> plus(_3,f(Y,a)), X -> plus(_3,f(b,Z)), _1 -> f(Y,a), _2 -> f(b,Z)")},
		{"times(plus(X,a),Y) = times(plus(b,Z),W)", forms(t, "W -> plus(X,a), Y -> plus(Z,b), _1 -> plus(X,a), _2 -> plus(Z,b)", "X -> b, Y -> W, Z -> a, _1 -> plus(a,b), _2 -> W, _3 -> b, _4 -> a", "X -> plus(_5,b), Y -> W, Z -> plus(_5,a), _1 -> plus(_5,a,b), _2 -> W, _3 -> b, _4 -> a", "W -> times(_3,plus(X,a)), Y -> times(_3,plus(Z,b)), _1 -> plus(X,a), _2 -> plus(Z,b)")},
	} {
		l, e := solve.Solve(example(), equations(t, x.in))
		wantAnswer(t, x.in, l, e, x.want, api.OK)
		for i := range l {
			if len(x.want) > i && len(l[i]) != len(x.want[i]) {
				t.Errorf("%s: the form %d", x.in, i)
			}
		}
	}
	l, e := solve.Solve(example(), equations(t, "X = _1"))
	wantAnswer(t, "New's error", l, e, nil, 161)
	l, e = solve.Solve(example(), equations(t, "plus(A,B,C,D) = plus(E,F,G,H)"))
	wantAnswer(t, "too many", l, e, nil, 2)
}

// TestSolveIsTheMachines: the answer of a machine that is stepped by hand.
func TestSolveIsTheMachines(t *testing.T) {
	for i, s := range signatures() {
		m := newMaker(int64(540 + i))
		for j := range 150 {
			l := append(m.equations(s, 2, 8, 2+j%4), m.sums(s, 4))
			x := started(t, s, l)
			run(t, x)
			want, wantE := x.Answer()
			got, e := solve.Solve(s, l)
			wantAnswer(t, toldEquations(l), got, e, want, wantE)
		}
	}
}
