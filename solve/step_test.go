package solve_test

import (
	"slices"
	"strconv"
	"testing"

	"amalgam/api"
	"amalgam/solve"
)

// Each thing that One says, and what abstract's Pure says in turn: the state on top behind one step.
func TestStepMakesAChild(t *testing.T) {
	for _, x := range []struct {
		what, in string
		want     api.State
	}{
		{"Done", "X = X", api.State{}},
		{"Done among others", "f(a,X) = Y; a = a; g(X) = Y", read(t, "f(a,X) = Y; g(X) = Y", "", 0)},
		{"Done by the canonical forms", "plus(X,a) = plus(a,X); times(X,plus(X,X,a)) = Y", read(t, "times(X,plus(X,X,a)) = Y", "", 0)},
		{"Set, a variable on the left", "f(X,Y) = f(a,X); X = g(Y)", read(t, "f(g(Y),Y) = f(a,g(Y))", "X -> g(Y)", 0)},
		{"Set, a variable on the right", "a = Y; plus(X,Y) = plus(Y,Z)", read(t, "plus(X,a) = plus(Z,a)", "Y -> a", 0)},
		{"Set, two variables", "X = Y; f(X,Y) = Z", read(t, "f(X,X) = Z", "Y -> X", 0)},
		{"Set, two variables, the greater one first", "Y = X; f(X,Y) = Z", read(t, "f(X,X) = Z", "Y -> X", 0)},
		{"Set into a sum", "plus(X,a) = Z; X = plus(Y,b)", read(t, "X = plus(Y,b)", "Z -> plus(X,a)", 0)},
		{"Parts", "f(X,a) = f(a,Y); plus(X,Y,a) = plus(X,a,b)", read(t, "X = a; a = Y; plus(X,Y,a) = plus(X,a,b)", "", 0)},
		{"Parts in the middle", "plus(X,Y,a) = Z; g(X) = g(Y); plus(X,Y,b) = Z", read(t, "plus(X,Y,a) = Z; X = Y; plus(X,Y,b) = Z", "", 0)},
		{"Parts of abstract's Pure, on the left", "plus(X,a) = plus(a,Y,b)", read(t, "X = plus(Y,b)", "", 0)},
		{"Parts of abstract's Pure, on the right", "f(f(X,a),f(X,a)) = Z; plus(Y,a,b) = plus(a,X)", read(t, "f(f(X,a),f(X,a)) = Z; plus(Y,b) = X", "", 0)},
		{"Parts of abstract's Pure, of a symbol with a unit", "times(X,one) = times(one,a,a)", read(t, "X = times(a,a)", "", 0)},
		{"Pure", "plus(X,X) = plus(Y,Y,Y)", read(t, "X = plus(_1,_1,_1); Y = plus(_1,_1)", "", 1)},
		{"Pure in the middle", "f(f(X,Y),f(X,Y)) = f(Z,a); plus(X,X,a) = plus(Y,a,Y,Y); g(f(X,Y)) = f(f(X,Z),Y)", read(t, "f(f(X,Y),f(X,Y)) = f(Z,a); X = plus(_1,_1,_1); Y = plus(_1,_1); g(f(X,Y)) = f(f(X,Z),Y)", "", 1)},
		{"Pure of aliens", "times(g(X),g(X)) = times(g(Y),g(Y))", read(t, "g(X) = _1; g(Y) = _1", "", 1)},
	} {
		m := machine(t, x.in)
		wantStep(t, x.what, m, false)
		wantMade(t, x.what, m, 2, 1)
		wantTop(t, x.what, m, x.want)
		got, e := m.Answer()
		wantAnswer(t, x.what, got, e, nil, api.OK)
	}
}

// TestStepOfFail: of One, and of abstract's Pure; nothing is made.
func TestStepOfFail(t *testing.T) {
	for _, line := range []string{"a = b", "X = f(X,a)", "f(X,a) = X", "X = plus(X,a)", "X = times(X,one)", "f(X,a) = g(X)", "plus(X,a) = a", "plus(X,a) = times(X,a)", "plus(X,a) = plus(X,a,Y)", "plus(X,Y,a,a) = plus(a,X,Y)", "times(X,one) = times(X,one,one)", "times(X,a) = one"} {
		m := machine(t, line)
		wantStep(t, line, m, false)
		wantMade(t, line, m, 1, 0)
		wantNoTop(t, line, m)
		got, e := m.Answer()
		wantAnswer(t, line+", not through yet", got, e, nil, api.OK)
		wantStep(t, line, m, true)
		got, e = m.Answer()
		wantAnswer(t, line, got, e, nil, api.OK)
	}
}

// TestStepOfFailLeavesOthers: those that lie below are not touched.
func TestStepOfFailLeavesOthers(t *testing.T) {
	m := machine(t, "plus(X,Y) = plus(a,b); f(g(g(X)),g(g(X))) = f(g(g(a)),g(g(a)))")
	wantStep(t, "Pure", m, false)
	wantMade(t, "Pure", m, 3, 2)
	for range 6 {
		m.Step()
	}
	if n, lie := m.Made(); lie == 0 || n < 5 {
		t.Errorf("%d were made, %d lie there", n, lie)
	}
	run(t, m)
	got, e := m.Answer()
	wantAnswer(t, "one is left", got, e, forms(t, "X -> a, Y -> b, _1 -> b, _2 -> a"), api.OK)
}

func TestStepOfAnEmptyStack(t *testing.T) {
	m := machine(t, "a = b")
	m.Step()
	wantMade(t, "empty", m, 1, 0)
	wantStep(t, "empty", m, true)
	wantMade(t, "through", m, 1, 0)
	wantNoTop(t, "through", m)
}

// TestStepOfOneThatIsThrough: nothing is done, however often it is asked.
func TestStepOfOneThatIsThrough(t *testing.T) {
	well := machine(t, "plus(X,Y) = plus(Z,a)")
	run(t, well)
	wrong := machine(t, "plus(X,X,X,X,X,X,X) = plus(Y,Z)")
	run(t, wrong)
	for _, m := range []*solve.Machine{well, wrong} {
		want := look(m)
		for range 5 {
			wantStep(t, "through", m, true)
			if got := look(m); got != want {
				t.Errorf("behind a step more: %s; was %s", got, want)
			}
		}
	}
}

// TestStepOfASolvedState: its binds, those of fresh variables too, are one form more, and nothing is made.
func TestStepOfASolvedState(t *testing.T) {
	m := machine(t, "times(g(X),g(X)) = times(Y,Y)")
	for range 3 {
		wantStep(t, "not yet", m, false)
	}
	solved := read(t, "", "Y -> g(X), _1 -> g(X)", 1)
	wantTop(t, "solved", m, solved)
	wantMade(t, "solved", m, 4, 1)
	wantStep(t, "the solved one", m, false)
	wantNoTop(t, "behind it", m)
	wantMade(t, "behind it", m, 4, 0)
	wantStep(t, "the end", m, true)
	l, e := m.Answer()
	wantAnswer(t, "one form", l, e, [][]api.Bind{solved.Binds}, api.OK)
}

// TestStepTakesTheLightest: not the first one, but the one that state's Next tells.
func TestStepTakesTheLightest(t *testing.T) {
	m := machine(t, "f(X,Y) = f(a,b); X = g(Z); g(Y) = g(b); Z = a")
	for _, want := range []api.State{
		read(t, "f(X,Y) = f(a,b); X = g(a); g(Y) = g(b)", "Z -> a", 0),
		read(t, "f(g(a),Y) = f(a,b); g(Y) = g(b)", "X -> g(a), Z -> a", 0),
		read(t, "f(g(a),Y) = f(a,b); Y = b", "X -> g(a), Z -> a", 0),
		read(t, "f(g(a),b) = f(a,b)", "X -> g(a), Y -> b, Z -> a", 0),
		read(t, "g(a) = a; b = b", "X -> g(a), Y -> b, Z -> a", 0),
		read(t, "g(a) = a", "X -> g(a), Y -> b, Z -> a", 0),
	} {
		wantStep(t, told(want), m, false)
		wantTop(t, "the next one", m, want)
	}
	wantStep(t, "Fail", m, false)
	wantStep(t, "the end", m, true)
}

// TestStepOfManyMasks: the children of one equation, in the order of their masks, the least one on top; each one's Fresh is by its own rows.
func TestStepOfManyMasks(t *testing.T) {
	// Of X, Y, Z, a: the rows 0 1 0 1, 0 1 1 0, 1 0 0 1, 1 0 1 0; each but a has some, a just one.
	wants := []api.State{
		read(t, "X = _2; Y = _1; Z = _1; a = _2", "", 2),                   // 0110
		read(t, "X = _2; Y = _1; Z = _2; a = _1", "", 2),                   // 1001
		read(t, "X = _3; Y = plus(_1,_2); Z = plus(_2,_3); a = _1", "", 3), // 1011
		read(t, "X = plus(_2,_3); Y = _1; Z = plus(_1,_3); a = _2", "", 3), // 1110
	}
	m := machine(t, "plus(X,Y) = plus(Z,a)")
	wantStep(t, "Pure", m, false)
	wantMade(t, "Pure", m, 5, 4)
	for i, want := range wants {
		wantTop(t, "the child "+strconv.Itoa(i), m, want)
		below := len(wants) - 1 - i
		for range 20 {
			if _, lie := m.Made(); lie == below {
				break
			}
			m.Step()
		}
		wantMade(t, "behind the child "+strconv.Itoa(i), m, madeOf(m), below)
	}
	wantStep(t, "the end", m, true)
	l, e := m.Answer()
	wantAnswer(t, "in order", l, e, forms(t, "X -> a, Z -> Y, _1 -> Y, _2 -> a", "Y -> a, Z -> X, _1 -> a, _2 -> X", "Y -> plus(_2,a), Z -> plus(X,_2), _1 -> a, _3 -> X", "X -> plus(_3,a), Z -> plus(Y,_3), _1 -> Y, _2 -> a"), api.OK)
}

func madeOf(m *solve.Machine) int {
	n, _ := m.Made()
	return n
}

// TestStepNamesFreshOnesOn: a second equation's fresh variables follow those of the state, not those of all states.
func TestStepNamesFreshOnesOn(t *testing.T) {
	m := machine(t, "plus(X,X) = plus(Y,Y,Y); times(g(g(Z)),W,W) = times(V,V)")
	wantStep(t, "the first", m, false)
	wantStep(t, "X", m, false)
	wantStep(t, "Y", m, false)
	wantTop(t, "ahead of the second", m, read(t, "times(W,W,g(g(Z))) = times(V,V)", "X -> plus(_1,_1,_1), Y -> plus(_1,_1)", 1))
	wantStep(t, "the second", m, false)
	// Of W 2, g(g(Z)) 1, V 2: the rows 0 2 1, 1 0 1; g(g(Z)) may be but one: so no mask fits.
	wantMade(t, "the second", m, 4, 0)
	m = machine(t, "plus(X,X) = plus(Y,Y,Y); times(Z,W,W) = times(V,V)")
	for range 4 {
		wantStep(t, "on", m, false)
	}
	// Of W 2, Z 1, V 2: the rows 0 2 1, 1 0 1; both are wanted.
	wantTop(t, "fresh ones", m, read(t, "W = _3; Z = times(_2,_2); V = times(_2,_3)", "X -> plus(_1,_1,_1), Y -> plus(_1,_1)", 3))
	run(t, m)
	l, e := m.Answer()
	wantAnswer(t, "fresh ones", l, e, forms(t, "V -> times(W,_2), X -> plus(_1,_1,_1), Y -> plus(_1,_1), Z -> times(_2,_2), _3 -> W"), api.OK)
}

// grown are equations by which a bound term has just so many nodes: ten towers in a sum, and so many constants.
func grown(nodes int) []api.Equation {
	sum := sy(plus, append(many(10, v("B")), many(nodes-381, sy(a))...)...)
	return []api.Equation{eq(v("A"), sum), eq(v("B"), tower(38, sy(b)))}
}

// TestStepOfABindThatGrows: by a bound term, and by a side.
func TestStepOfABindThatGrows(t *testing.T) {
	m := started(t, example(), grown(400))
	run(t, m)
	if l, e := m.Answer(); len(l) != 1 || e != api.OK {
		t.Errorf("400 nodes: %d, %d", len(l), e)
	}
	m = started(t, example(), grown(401))
	wantStep(t, "A is bound", m, false)
	wantMade(t, "A is bound", m, 2, 1)
	wantStep(t, "B is bound", m, true)
	wantGivenUp(t, "401 nodes of a bound term", m, 2)

	side := func(nodes int) []api.Equation {
		sum := sy(plus, append(many(10, v("B")), many(nodes-381, sy(a))...)...)
		return []api.Equation{eq(tower(20, sum), v("A")), eq(tower(38, sy(b)), v("B"))}
	}
	if l, e := solve.Solve(example(), side(381)); len(l) != 1 || e != api.OK {
		t.Errorf("400 nodes: %d, %d", len(l), e)
	}
	m = started(t, example(), side(382))
	wantStep(t, "A or B is bound", m, false)
	wantStep(t, "the other one is bound", m, true)
	wantGivenUp(t, "401 nodes", m, 2)
}

// TestStepOfATermThatDoubles: what a chain of equations makes grows beyond all bounds.
func TestStepOfATermThatDoubles(t *testing.T) {
	chain := func(n int) []api.Equation {
		var l []api.Equation
		for i := range n {
			x, y := v(string(rune('A'+i))), v(string(rune('B'+i)))
			l = append(l, eq(x, sy(f, y, y)))
		}
		return l
	}
	if l, e := solve.Solve(example(), chain(7)); len(l) != 1 || len(l[0]) != 7 || e != api.OK {
		t.Errorf("255 nodes: %d, %d", len(l), e)
	}
	l, e := solve.Solve(example(), chain(8))
	wantAnswer(t, "511 nodes", l, e, nil, api.ErrTooMany)
}

// TestStepOfTooGreatASum: ErrTooMany of abstract's Pure, and what is just not too great.
func TestStepOfTooGreatASum(t *testing.T) {
	for _, line := range []string{"plus(X,X,X,X,X,X,X) = plus(Y,Z)", "plus(Y,Z) = plus(X,X,X,X,X,X,X)", "plus(a,b,c,d,one,f(a,a)) = plus(X,Y)", "times(X,Y) = times(U,V,W,A,B,C)", "plus(a,a,a,a,a,a,a,b) = plus(X,Y,one)"} {
		m := machine(t, line)
		wantStep(t, line, m, true)
		wantGivenUp(t, line, m, 1)
	}
	for _, line := range []string{"plus(X,X,X,X,X,X) = plus(Y,Y,Y,Y,Y,b)", "plus(a,b,c,d,one) = plus(X,Y)", "plus(X,X,X,X,X,X,X) = plus(X,Y,a)"} {
		m := machine(t, line)
		wantStep(t, line, m, false)
		if n := madeOf(m); n < 2 {
			t.Errorf("%s: %d states", line, n)
		}
	}
}

// TestStepOfTooManyRows: ErrTooMany of linsolve's Basis: of more than 16 rows, not of just 16.
func TestStepOfTooManyRows(t *testing.T) {
	for _, line := range []string{"plus(A,B,C,D,E) = plus(F,G,H,I,J)", "plus(A,B,C,D,E) = plus(a,b,c,d)", "times(A,B,C,C,C) = times(D,D,E,E,F)"} {
		m := machine(t, line)
		wantStep(t, line, m, true)
		wantGivenUp(t, line, m, 1)
	}
	m := machine(t, "plus(A,B,C,D) = plus(a,b,c,d)")
	wantStep(t, "16 rows", m, false)
	wantMade(t, "16 rows", m, 25, 24)
	run(t, m)
	if l, e := m.Answer(); len(l) != 24 || e != api.OK {
		t.Errorf("16 rows: %d forms, %d", len(l), e)
	}
}

// padded has so many equations more that hold: each of them makes one state.
func padded(l []api.Equation, n int) []api.Equation {
	return append(slices.Repeat([]api.Equation{eq(sy(a), sy(a))}, n), l...)
}

// TestStepOfTooManyStates: just 4096 may be; of one more the machine is through, and it was counted.
func TestStepOfTooManyStates(t *testing.T) {
	// The first two have many answers, of which the last one, which is the heaviest, leaves none.
	l := []api.Equation{splits(1, 5, "X", "Y"), splits(1, 5, "Z", "W"), eq(tower(20, sy(a)), tower(20, sy(b)))}
	m := started(t, example(), l)
	run(t, m)
	made := madeOf(m)
	if found, e := m.Answer(); len(found) != 0 || e != api.OK || made < 2000 {
		t.Fatalf("%d forms, %d, %d states", len(found), e, made)
	}
	m = started(t, example(), padded(l, 4096-made))
	if n := run(t, m); n != 4097 {
		t.Errorf("%d steps", n)
	}
	wantMade(t, "4096 states", m, 4096, 0)
	found, e := m.Answer()
	wantAnswer(t, "4096 states", found, e, nil, api.OK)
	m = started(t, example(), padded(l, 4097-made))
	if n := run(t, m); n > 4096 {
		t.Errorf("%d steps", n)
	}
	wantGivenUp(t, "4097 states", m, 4097)
}

// TestStepOfTooManyChildren: those of one equation alone are too many; none behind the first one too many is counted.
func TestStepOfTooManyChildren(t *testing.T) {
	m := machine(t, "plus(A,B,C,D) = plus(E,F,G,H)")
	wantStep(t, "16 rows", m, true)
	wantGivenUp(t, "16 rows", m, 4097)
	m = machine(t, "a = a; plus(A,B,C,D) = plus(E,F,G,H)")
	wantStep(t, "16 rows", m, false)
	wantStep(t, "16 rows", m, true)
	wantGivenUp(t, "16 rows, later", m, 4097)
}

// splits is an equation with so many forms as there are ways to deal out a's and b's to two, each some.
func splits(as, bs int, x, y string) api.Equation {
	return eq(sy(plus, v(x), v(y)), sy(plus, append(many(as, sy(a)), many(bs, sy(b))...)...))
}

// TestStepOfTooManyForms: just 100 may be.
func TestStepOfTooManyForms(t *testing.T) {
	m := started(t, example(), []api.Equation{splits(1, 5, "X", "Y"), splits(1, 5, "Z", "W")})
	run(t, m)
	l, e := m.Answer()
	if len(l) != 100 || e != api.OK {
		t.Errorf("%d forms, %d; want 100", len(l), e)
	}
	seen := map[string]int{}
	for _, form := range l {
		seen[toldBinds(form)]++
	}
	if len(seen) != 100 {
		t.Errorf("%d are unlike", len(seen))
	}
	// 10 by 12 ways; 47 by 2 by 2.
	for _, l := range [][]api.Equation{{splits(1, 5, "X", "Y"), splits(1, 6, "Z", "W")}, {splits(6, 6, "X", "Y"), splits(1, 1, "Z", "W"), splits(1, 1, "U", "V")}} {
		m, want := started(t, example(), l), newAgain(example(), l)
		before := 0
		for range enough {
			before = madeOf(m)
			if m.Step() {
				break
			}
		}
		for !want.step() {
		}
		if len(want.forms) != 101 || look(m) != want.look() {
			t.Errorf("%d forms: %s; want %s", len(want.forms), look(m), want.look())
		}
		wantGivenUp(t, "too many forms", m, before)
	}
}

// TestStepsSaidAgain: all that a machine tells, step by step, is what the chapter's words make of it.
func TestStepsSaidAgain(t *testing.T) {
	through := map[string]int{}
	for i, s := range signatures() {
		m := newMaker(int64(520 + i))
		for j := range 400 {
			l := m.equations(s, 3, 3+j%16, 2+j%4)
			if j%2 == 0 {
				l = append(l, m.sums(s, 2+j%4))
			}
			got, want := started(t, s, l), newAgain(s, l)
			for n := 0; ; n++ {
				if x, y := look(got), want.look(); x != y {
					t.Fatalf("%s, behind %d steps: %s; want %s", toldEquations(l), n, x, y)
				}
				if want.through {
					break
				}
				if x, y := got.Step(), want.step(); x != y {
					t.Fatalf("%s, step %d: %v; want %v", toldEquations(l), n, x, y)
				}
			}
			kind := "none"
			if want.tooMany {
				kind = "too many"
			} else if len(want.forms) == 1 {
				kind = "one"
			} else if len(want.forms) > 1 {
				kind = "several"
			}
			through[kind]++
		}
	}
	for kind, least := range map[string]int{"none": 200, "one": 200, "several": 30, "too many": 5} {
		if through[kind] < least {
			t.Errorf("%v", through)
		}
	}
}
