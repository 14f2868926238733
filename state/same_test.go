package state_test

import (
	"math"
	"slices"
	"testing"

	"amalgam/api"
	"amalgam/state"
)

// states are unlike each other, each in one thing from the first one or from another one.
func states(t *testing.T) []api.State {
	t.Helper()
	first := func() api.State {
		return read(t, "X = f(Y,a); plus(X,a) = plus(Y,Z)", "U -> f(a,X), W -> a", 3)
	}
	l := []api.State{{}, {Fresh: 1}, {Fresh: -1}, {Fresh: math.MaxInt}, {Equations: []api.Equation{{}}}, {Binds: []api.Bind{{}}}, {Equations: make([]api.Equation, 2)}, {Binds: make([]api.Bind, 2)}, first()}
	for _, change := range []func(x *api.State){
		func(x *api.State) { x.Equations[0].L = v("Y") },
		func(x *api.State) { x.Equations[0].L = sy(a) },
		func(x *api.State) { x.Equations[1].L = term(t, "plus(X,b)") },
		func(x *api.State) { x.Equations[0].R = term(t, "f(Y,b)") },
		func(x *api.State) { x.Equations[1].R = term(t, "plus(X,Z)") },
		func(x *api.State) { x.Equations[0].L, x.Equations[0].R = x.Equations[0].R, x.Equations[0].L },
		func(x *api.State) { x.Equations[0], x.Equations[1] = x.Equations[1], x.Equations[0] },
		func(x *api.State) { x.Equations = x.Equations[:1] },
		func(x *api.State) { x.Equations = x.Equations[1:] },
		func(x *api.State) { x.Equations = append(x.Equations, x.Equations[1]) },
		func(x *api.State) { x.Equations = nil },
		func(x *api.State) { x.Binds[0].Var = "V" },
		func(x *api.State) { x.Binds[1].Var = "X" },
		func(x *api.State) { x.Binds[0].T = term(t, "f(a,Y)") },
		func(x *api.State) { x.Binds[1].T = sy(b) },
		func(x *api.State) { x.Binds[0], x.Binds[1] = x.Binds[1], x.Binds[0] },
		func(x *api.State) { x.Binds = x.Binds[:1] },
		func(x *api.State) { x.Binds = x.Binds[1:] },
		func(x *api.State) { x.Binds = append(x.Binds, x.Binds[1]) },
		func(x *api.State) { x.Binds = nil },
		func(x *api.State) { x.Fresh = 4 },
		func(x *api.State) { x.Fresh = -3 },
		func(x *api.State) { x.Equations[0].R = api.Term{Sym: 99} },
		func(x *api.State) { x.Equations[0].R = api.Term{Sym: -1, Args: []api.Term{v("x")}} },
		func(x *api.State) { x.Binds[0].Var = "" },
		func(x *api.State) { x.Binds[0].T = sy(f, sy(a)) },
	} {
		x := first()
		change(&x)
		l = append(l, x)
	}
	return l
}

func TestSame(t *testing.T) {
	for i, x := range states(t) {
		for j, y := range states(t) {
			if state.Same(x, y) != (i == j) {
				t.Errorf("Same of %s and %s: %v", told(x), told(y), i != j)
			}
		}
	}
}

// TestSameAsTermsSame: a variable is told by its name alone, as terms' Same tells it; nothing is made canonical.
func TestSameAsTermsSame(t *testing.T) {
	strange := api.Term{Var: "X", Sym: 7, Args: []api.Term{sy(a)}}
	for _, c := range []struct {
		x, y api.Term
		want bool
	}{
		{v("X"), strange, true}, {strange, v("X"), true}, {strange, v("Y"), false},
		{sy(plus, v("X"), sy(a)), sy(plus, sy(a), v("X")), false}, {sy(times, v("X"), sy(one)), v("X"), false},
		{sy(a), api.Term{Args: []api.Term{}}, true}, {sy(99, v("x")), sy(99, v("x")), true},
	} {
		if state.Same(api.State{Equations: []api.Equation{eq(c.x, v("Y"))}}, api.State{Equations: []api.Equation{eq(c.y, v("Y"))}}) != c.want {
			t.Errorf("left sides %s and %s: %v", written(c.x), written(c.y), !c.want)
		}
		if state.Same(api.State{Equations: []api.Equation{eq(v("Y"), c.x)}}, api.State{Equations: []api.Equation{eq(v("Y"), c.y)}}) != c.want {
			t.Errorf("right sides %s and %s: %v", written(c.x), written(c.y), !c.want)
		}
		if state.Same(api.State{Binds: []api.Bind{bind("Y", c.x)}}, api.State{Binds: []api.Bind{bind("Y", c.y)}}) != c.want {
			t.Errorf("bound terms %s and %s: %v", written(c.x), written(c.y), !c.want)
		}
	}
}

// TestSameOfNilAndEmpty: a list of none is alike, nil or not.
func TestSameOfNilAndEmpty(t *testing.T) {
	if !state.Same(api.State{}, api.State{Equations: []api.Equation{}, Binds: []api.Bind{}}) || !state.Same(api.State{Equations: make([]api.Equation, 0, 3), Fresh: 2}, api.State{Binds: make([]api.Bind, 0, 3), Fresh: 2}) {
		t.Error("empty ones are unlike")
	}
}

func TestClone(t *testing.T) {
	for _, x := range append(states(t), api.State{Equations: []api.Equation{}, Binds: []api.Bind{}}) {
		y := state.Clone(x)
		wantState(t, "Clone", y, x)
		if !state.Same(x, y) || !state.Same(y, x) {
			t.Errorf("Clone of %s is not the same", told(x))
		}
	}
	m := newMaker(310)
	for i := range 1000 {
		x := m.any(signatures()[i%4])
		wantState(t, "Clone of any", state.Clone(x), x)
	}
}

// TestCloneIsApart: what is done with the one is not seen in the other.
func TestCloneIsApart(t *testing.T) {
	x := read(t, "X = f(Y,g(a)); plus(X,a) = plus(Y,Z)", "U -> f(a,X)", 3)
	was := told(x)
	y := state.Clone(x)
	y.Equations[0].R.Args[1].Args[0] = sy(b)
	y.Equations[1].L.Args[0] = sy(b)
	y.Binds[0].T.Args[1] = sy(b)
	if told(x) != was {
		t.Errorf("%s; was %s", told(x), was)
	}
	y = state.Clone(x)
	x.Equations[0].R.Args[1].Args[0] = sy(b)
	x.Binds[0].T.Args[1] = sy(b)
	x.Equations[1], x.Binds[0], x.Fresh = api.Equation{}, api.Bind{}, 9
	if told(y) != was {
		t.Errorf("%s; was %s", told(y), was)
	}
}

func TestSolved(t *testing.T) {
	l := binds(t, "X -> a")
	for _, x := range []api.State{{}, {Equations: []api.Equation{}}, {Equations: make([]api.Equation, 0, 4)}, {Binds: l, Fresh: 2}, {Equations: []api.Equation{}, Binds: l}} {
		if !state.Solved(x) {
			t.Errorf("not solved: %s", told(x))
		}
	}
	for _, x := range []api.State{chapters(t), {Equations: make([]api.Equation, 1)}, {Equations: equations(t, "X = X")}, {Equations: equations(t, "a = a"), Binds: l, Fresh: 2}, {Equations: slices.Repeat(equations(t, "a = b"), 100)}} {
		if state.Solved(x) {
			t.Errorf("solved: %s", told(x))
		}
	}
}
