package derive_test

import (
	"math"
	"slices"
	"testing"

	"amalgam/api"
	"amalgam/derive"
	"amalgam/terms"
)

func TestExamples(t *testing.T) {
	s := exampleSignature()
	wantStep(t, s, tm(t, "plus(X,plus(a,Y))"), flat(1), tm(t, "plus(X,a,Y)"), group(1, 2))
	wantStep(t, s, tm(t, "f(X,times(one,X))"), drop(0, 1), tm(t, "f(X,X)"), grow(4, 1, 0, 1))
	wantNone(t, s, tm(t, "f(X,a)"), swap(0))
	from, to := tm(t, "plus(a,plus(X,a))"), tm(t, "plus(X,a,a)")
	l, ok := derive.Way(s, from, to)
	if y, e, _ := derive.Play(s, from, l); !ok || len(l) == 0 || e != api.OK || !terms.Same(y, to) {
		t.Errorf("Way: %s, %v", writtenSteps(l), ok)
	}
	if l, ok := derive.Way(s, from, tm(t, "plus(X,a)")); ok || len(l) != 0 {
		t.Errorf("Way to another one: %s, %v", writtenSteps(l), ok)
	}
}

func TestSteps(t *testing.T) {
	s := exampleSignature()
	for _, c := range []struct {
		in   string
		x    api.Step
		want string
		back api.Step
	}{
		{"plus(plus(X,Y),a)", flat(0), "plus(X,Y,a)", group(0, 2)},
		{"plus(X,plus(Y,a,Z),one)", flat(1), "plus(X,Y,a,Z,one)", group(1, 3)},
		{"times(X,times(one,one))", flat(1), "times(X,one,one)", group(1, 2)},
		{"plus(X,plus(Y,plus(a,Z)))", flat(1), "plus(X,Y,plus(a,Z))", group(1, 2)},
		{"plus(X,plus(Y,plus(a,Z)))", flat(1, 1), "plus(X,plus(Y,a,Z))", group(1, 2, 1)},
		{"f(a,f(X,times(Y,times(X,X))))", flat(1, 1, 1), "f(a,f(X,times(Y,X,X)))", group(1, 2, 1, 1)},
		{"plus(X,Y,a)", group(0, 2), "plus(plus(X,Y),a)", flat(0)},
		{"plus(X,Y,a)", group(1, 2), "plus(X,plus(Y,a))", flat(1)},
		{"times(X,Y,a,Z)", group(1, 2), "times(X,times(Y,a),Z)", flat(1)},
		{"times(X,Y,a,Z)", group(0, 3), "times(times(X,Y,a),Z)", flat(0)},
		{"times(X,Y,a,Z)", group(1, 3), "times(X,times(Y,a,Z))", flat(1)},
		{"f(plus(X,Y,a),a)", group(1, 2, 0), "f(plus(X,plus(Y,a)),a)", flat(1, 0)},
		{"plus(X,Y)", swap(0), "plus(Y,X)", swap(0)},
		{"plus(a,X,Y)", swap(1), "plus(a,Y,X)", swap(1)},
		{"times(a,times(X,Y))", swap(0), "times(times(X,Y),a)", swap(0)},
		{"f(a,plus(X,Y))", swap(0, 1), "f(a,plus(Y,X))", swap(0, 1)},
		{"plus(X,X)", swap(0), "plus(X,X)", swap(0)},
		{"times(one,X,Y)", drop(0), "times(X,Y)", grow(times, 0, 0)},
		{"times(X,one,Y)", drop(1), "times(X,Y)", grow(times, 0, 1)},
		{"times(X,Y,one)", drop(2), "times(X,Y)", grow(times, 0, 2)},
		{"times(one,one,one)", drop(1), "times(one,one)", grow(times, 0, 1)},
		{"times(one,X)", drop(0), "X", grow(times, 1, 0)},
		{"times(X,one)", drop(1), "X", grow(times, 1, 1)},
		{"times(one,one)", drop(0), "one", grow(times, 1, 0)},
		{"times(one,one)", drop(1), "one", grow(times, 1, 1)},
		{"times(times(X,Y),one)", drop(1), "times(X,Y)", grow(times, 1, 1)},
		{"plus(one,times(one,f(a,X)))", drop(0, 1), "plus(one,f(a,X))", grow(times, 1, 0, 1)},
		{"times(X,Y)", grow(times, 0, 0), "times(one,X,Y)", drop(0)},
		{"times(X,Y)", grow(times, 0, 1), "times(X,one,Y)", drop(1)},
		{"times(X,Y)", grow(times, 0, 2), "times(X,Y,one)", drop(2)},
		{"f(a,times(X,Y))", grow(times, 0, 2, 1), "f(a,times(X,Y,one))", drop(2, 1)},
		{"times(X,Y)", grow(times, 1, 0), "times(one,times(X,Y))", drop(0)},
		{"times(X,Y)", grow(times, 1, 1), "times(times(X,Y),one)", drop(1)},
		{"X", grow(times, 1, 0), "times(one,X)", drop(0)},
		{"X", grow(times, 1, 1), "times(X,one)", drop(1)},
		{"one", grow(times, 1, 0), "times(one,one)", drop(0)},
		{"a", grow(times, 1, 1), "times(a,one)", drop(1)},
		{"plus(X,a,Y)", grow(times, 1, 1), "times(plus(X,a,Y),one)", drop(1)},
		{"plus(X,f(a,Y))", grow(times, 1, 0, 1, 1), "plus(X,f(a,times(one,Y)))", drop(0, 1, 1)},
	} {
		wantStep(t, s, tm(t, c.in), c.x, tm(t, c.want), c.back)
	}
}

// far are numbers that are no places of a few arguments, some of which add up to more than an int holds.
func far(n int) []int {
	return []int{-1, -2, n, n + 1, math.MaxInt, math.MaxInt - 1, math.MinInt, math.MinInt + 1, 1 << 32, -1 << 32, math.MaxInt32, 1 << 62}
}

func TestPathsThatAreNoPlaces(t *testing.T) {
	s := exampleSignature()
	x := tm(t, "plus(times(X,one),plus(one,times(times(Y,a),one)))")
	for _, p := range []api.Step{flat(1), group(0, 2), swap(0), drop(1), grow(times, 0, 0), grow(times, 1, 0)} {
		for _, i := range far(2) {
			for _, path := range [][]int{{i}, {1, i}, {1, 1, i}, {i, 1}, {1, i, 0}, {1, 1, 0, 0, i}, {0, 0, i}} {
				p.Path = path
				wantNone(t, s, x, p)
			}
		}
		for _, path := range [][]int{{0, 0, 0}, {1, 0, 0}, {1, 1, 1, 0}, slices.Repeat([]int{1}, 1000)} {
			p.Path = path
			wantNone(t, s, x, p)
		}
		p.Path = []int{0}
		wantNone(t, s, v("X"), p)
		wantNone(t, s, sy(a), p)
		wantNone(t, s, sy(one), p)
	}
}

func TestKindsThatAreNone(t *testing.T) {
	s := exampleSignature()
	for _, in := range []string{"X", "a", "one", "f(X,a)", "plus(X,plus(a,Y),X)", "times(one,times(X,one),one)"} {
		for _, kind := range []int{0, -1, 6, 7, math.MaxInt, math.MinInt, 1 << 32, 1<<32 + 1} {
			for _, p := range []api.Step{flat(1), group(0, 2), drop(0), grow(times, 0, 0), grow(times, 1, 0)} {
				p.Kind = api.StepKind(kind)
				wantNone(t, s, tm(t, in), p)
			}
		}
	}
}

func TestArgumentsThatAreNotThere(t *testing.T) {
	s := exampleSignature()
	own, units := tm(t, "times(times(X,Y),times(X,Y),times(X,Y))"), tm(t, "times(one,one,one)")
	for _, at := range far(3) {
		wantNone(t, s, own, flat(at))
		wantNone(t, s, own, group(at, 2))
		wantNone(t, s, own, swap(at))
		wantNone(t, s, units, drop(at))
		if at != 3 {
			wantNone(t, s, units, grow(times, 0, at))
		}
	}
	for _, at := range far(2) {
		wantNone(t, s, units, grow(times, 1, at))
		wantNone(t, s, v("X"), grow(times, 1, at))
	}
}

func TestFlatOfOthers(t *testing.T) {
	s := exampleSignature()
	x := tm(t, "plus(X,a,one,f(X,a),times(X,a))")
	for at := range 5 {
		wantNone(t, s, x, flat(at))
	}
	x = tm(t, "times(X,a,one,f(X,a),plus(X,a))")
	for at := range 5 {
		wantNone(t, s, x, flat(at))
	}
	x = tm(t, "f(f(X,a),plus(X,a))")
	for at := range 2 {
		wantNone(t, s, x, flat(at))
	}
	// A variable's Sym is the place of an AC symbol here.
	wide := wideSignature()
	wantNone(t, wide, sy(or, v("X"), v("Y")), flat(0))
	wantNone(t, wide, v("X"), flat(0))
	wantStep(t, wide, sy(or, v("X"), sy(or, v("Y"), v("Z"))), flat(1), sy(or, v("X"), v("Y"), v("Z")), group(1, 2))
	// Two symbols with one unit are two symbols.
	wantNone(t, wide, sy(and, v("X"), sy(both, v("Y"), v("Z"))), flat(1))
}

func TestGroupsThatAreNone(t *testing.T) {
	s := exampleSignature()
	for _, in := range []string{"plus(X,Y,a,Z)", "times(X,Y,a,Z)"} {
		x := tm(t, in)
		for _, many := range []int{1, 0, -1, 4, 5, math.MaxInt, math.MaxInt - 1, math.MaxInt - 3, math.MinInt, math.MinInt + 3} {
			for _, at := range []int{0, 1, 2, 3, 4, math.MaxInt, math.MinInt} {
				wantNone(t, s, x, group(at, many))
			}
		}
		wantNone(t, s, x, group(3, 2))
		wantNone(t, s, x, group(2, 3))
		wantNone(t, s, x, group(3, 3))
		wantNone(t, s, x, group(-1, 2))
		wantNone(t, s, x, group(math.MaxInt, 2))
		wantNone(t, s, x, group(math.MaxInt-1, 3))
		wantNone(t, s, x, group(math.MinInt, 3))
	}
	wantNone(t, s, tm(t, "plus(X,Y)"), group(0, 2))
	wantNone(t, s, tm(t, "f(X,Y)"), group(0, 2))
	four := api.Signature{{Name: "a", Kind: api.Free}, {Name: "h", Kind: api.Free, Arity: 4}}
	wantNone(t, four, sy(1, v("X"), v("Y"), sy(0), v("Z")), group(1, 2))
}

func TestSwapOfTheLast(t *testing.T) {
	s := exampleSignature()
	wantNone(t, s, tm(t, "plus(X,Y)"), swap(1))
	wantNone(t, s, tm(t, "times(X,Y,a)"), swap(2))
	wantNone(t, s, tm(t, "times(X,Y,a)"), swap(3))
	wantNone(t, s, tm(t, "f(a,X)"), swap(0))
}

func TestDropOfWhatIsNoUnit(t *testing.T) {
	s := exampleSignature()
	x := tm(t, "times(X,a,f(one,one),plus(one,one),times(one,one))")
	for at := range 5 {
		wantNone(t, s, x, drop(at))
	}
	for at := range 2 {
		wantNone(t, s, tm(t, "times(X,a)"), drop(at))
		wantNone(t, s, tm(t, "plus(one,one)"), drop(at))
		wantNone(t, s, tm(t, "plus(a,a)"), drop(at))
		wantNone(t, s, tm(t, "f(one,one)"), drop(at))
		wantNone(t, s, tm(t, "f(a,a)"), drop(at))
	}
	wantNone(t, s, tm(t, "plus(X,one,a)"), drop(1))
	// A variable's Sym is the unit's place here.
	wantNone(t, unitFirst(), sy(1, v("X"), v("Y")), drop(0))
	wantStep(t, unitFirst(), sy(1, v("X"), sy(0)), drop(1), v("X"), grow(1, 1, 1))
	// Another symbol's unit.
	wide := wideSignature()
	wantNone(t, wide, sy(and, sy(zero), v("X")), drop(0))
	wantNone(t, wide, sy(sum, sy(no), v("X")), drop(0))
	wantStep(t, wide, sy(and, sy(no), v("X")), drop(0), v("X"), grow(and, 1, 0))
	wantStep(t, wide, sy(both, sy(no), v("X"), v("Y")), drop(0), sy(both, v("X"), v("Y")), grow(both, 0, 0))
}

func TestGrowthThatIsNone(t *testing.T) {
	s := exampleSignature()
	x := tm(t, "times(X,Y)")
	for _, sym := range append(far(len(s)), a, one, f, plus) {
		for many := range 2 {
			wantNone(t, s, x, grow(sym, many, 0))
			wantNone(t, s, tm(t, "plus(X,Y)"), grow(sym, many, 0))
			wantNone(t, s, v("X"), grow(sym, many, 1))
		}
	}
	for _, many := range []int{-1, 2, 3, math.MaxInt, math.MinInt, 1 << 32, 1<<32 + 1} {
		for at := range 3 {
			wantNone(t, s, x, grow(times, many, at))
		}
	}
	for at := range 3 {
		for _, in := range []string{"X", "a", "one", "f(X,a)", "plus(X,a)"} {
			wantNone(t, s, tm(t, in), grow(times, 0, at))
		}
	}
	wantNone(t, s, x, grow(times, 0, 3))
	wantNone(t, s, x, grow(times, 0, -1))
	wantNone(t, s, x, grow(times, 1, 2))
	wantNone(t, s, x, grow(times, 1, -1))
	// Many 0 at a term of another symbol that has the same unit.
	wide := wideSignature()
	wantNone(t, wide, sy(and, v("X"), v("Y")), grow(both, 0, 0))
	wantStep(t, wide, sy(and, v("X"), v("Y")), grow(both, 1, 1), sy(both, sy(and, v("X"), v("Y")), sy(no)), drop(1))
	wantStep(t, wide, sy(sum, v("X"), v("Y")), grow(sum, 0, 1), sy(sum, v("X"), sy(zero), v("Y")), drop(1))
	// A symbol of the signature's spare room.
	wantNone(t, s[:4], tm(t, "plus(X,Y)"), grow(times, 1, 0))
}

func TestAVariableHasNoSymbol(t *testing.T) {
	for _, s := range signatures() {
		for _, kind := range []api.StepKind{api.Flat, api.Group, api.Swap, api.Drop} {
			for at := range 3 {
				wantNone(t, s, v("X"), api.Step{Kind: kind, At: at, Many: 2})
			}
		}
		for sym := range s {
			for at := range 3 {
				wantNone(t, s, v("X"), grow(sym, 0, at))
			}
		}
	}
	// By a signature that is not right, an ACU symbol may stand at the place 0, too.
	wrong := api.Signature{{Name: "m", Kind: api.ACU, Arity: 2, Unit: "e"}, {Name: "e", Kind: api.Free}}
	wantNone(t, wrong, v("X"), grow(0, 0, 0))
}

func TestFieldsThatDoNotCount(t *testing.T) {
	s := exampleSignature()
	odd := append(far(3), 0, 1, 2, 4)
	for _, n := range odd {
		for _, m := range odd {
			p := api.Step{Kind: api.Flat, At: 1, Many: n, Sym: m}
			wantStep(t, s, tm(t, "plus(X,plus(a,Y))"), p, tm(t, "plus(X,a,Y)"), group(1, 2))
			p.Kind, p.At = api.Swap, 0
			wantStep(t, s, tm(t, "plus(X,plus(a,Y))"), p, tm(t, "plus(plus(a,Y),X)"), swap(0))
			p.Kind = api.Drop
			wantStep(t, s, tm(t, "times(one,X)"), p, v("X"), grow(times, 1, 0))
			wantStep(t, s, tm(t, "times(one,X,Y)"), p, tm(t, "times(X,Y)"), grow(times, 0, 0))
		}
		p := api.Step{Kind: api.Group, Many: 2, Sym: n}
		wantStep(t, s, tm(t, "times(X,Y,a)"), p, tm(t, "times(times(X,Y),a)"), flat(0))
	}
}

// steps are steps that may be those of a term and many that are none, at all its places and beside them.
func steps(s api.Signature, t api.Term) []api.Step {
	var l []api.Step
	for path, n := range terms.All(t) {
		for at := -1; at <= len(n.Args)+1; at++ {
			l = append(l, flat(at, path...), swap(at, path...), drop(at, path...))
			for many := -1; many <= len(n.Args)+1; many++ {
				l = append(l, group(at, many, path...))
			}
			for sym := -1; sym <= len(s); sym++ {
				for many := -1; many <= 2; many++ {
					l = append(l, grow(sym, many, at, path...))
				}
			}
		}
		beside := append(slices.Clone(path), len(n.Args))
		l = append(l, flat(0, beside...), group(0, 2, beside...), swap(0, beside...), drop(0, beside...), grow(len(s)-1, 1, 0, beside...))
	}
	return l
}

// wantAsSaid: Do and Back answer what the chapter's table says; whether the step can be done.
func wantAsSaid(t *testing.T, s api.Signature, x api.Term, p api.Step) bool {
	t.Helper()
	y, back, ok := said(s, x, p)
	if ok {
		wantStep(t, s, x, p, y, back)
	} else {
		wantNone(t, s, x, p)
	}
	return ok
}

func TestAllStepsOfSmallTerms(t *testing.T) {
	for i, s := range signatures() {
		done, all := 0, 0
		for _, x := range smallTerms(s, 1, []int{5, 4, 6}[i]) {
			for _, p := range steps(s, x) {
				all++
				if wantAsSaid(t, s, x, p) {
					done++
				}
			}
			if t.Failed() {
				return
			}
		}
		if done < 1000 || all-done < 1000 {
			t.Errorf("signature %d: %d steps of %d can be done", i, done, all)
		}
	}
}

func TestManySteps(t *testing.T) {
	for i, s := range signatures() {
		m := newMaker(int64(i) + 7)
		done := map[api.StepKind]int{}
		for _, x := range manyTerms(s, 1200) {
			for range 60 {
				if p := m.step(s, x); wantAsSaid(t, s, x, p) {
					done[p.Kind]++
				}
			}
			if t.Failed() {
				return
			}
		}
		for kind := api.Flat; kind <= api.Grow; kind++ {
			if done[kind] < 100 {
				t.Errorf("signature %d: only %d steps of the kind %d", i, done[kind], kind)
			}
		}
	}
}
