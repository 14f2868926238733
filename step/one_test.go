package step_test

import (
	"slices"
	"testing"

	"amalgam/api"
	"amalgam/step"
)

func wantWay(t *testing.T, s api.Signature, e api.Equation, want api.Way) {
	t.Helper()
	if w := step.One(s, e); writtenWay(w) != writtenWay(want) {
		t.Errorf("%s: %s; want %s", writtenEquations([]api.Equation{e}), writtenWay(w), writtenWay(want))
	}
}

func done() api.Way { return api.Way{Act: api.Done} }

func fail() api.Way { return api.Way{Act: api.Fail} }

func set(t *testing.T, line string) api.Way {
	t.Helper()
	return api.Way{Act: api.Set, Bind: binds(t, line)[0]}
}

func parts(t *testing.T, line string) api.Way {
	t.Helper()
	return api.Way{Act: api.Parts, L: equations(t, line)}
}

func pure(sym int) api.Way { return api.Way{Act: api.Pure, Sym: sym} }

func TestActs(t *testing.T) {
	if l := []api.Act{api.Done, api.Fail, api.Set, api.Parts, api.Pure}; !slices.Equal(l, []api.Act{1, 2, 3, 4, 5}) {
		t.Errorf("%v", l)
	}
}

// TestOne goes through the rows of the table, the examples of the chapter among them; ways are held against each other with all their fields.
func TestOne(t *testing.T) {
	for line, want := range map[string]api.Way{
		"X = X":                       done(),
		"_1 = _1":                     done(),
		"a = a":                       done(),
		"one = one":                   done(),
		"f(X,g(a)) = f(X,g(a))":       done(),
		"plus(X,a) = plus(X,a)":       done(),
		"times(X,one) = times(X,one)": done(),
		"X = Y":                       set(t, "Y -> X"),
		"Y = X":                       set(t, "Y -> X"),
		"X = X2":                      set(t, "X2 -> X"),
		"X2 = X":                      set(t, "X2 -> X"),
		"X10 = X2":                    set(t, "X2 -> X10"),
		"X2 = X10":                    set(t, "X2 -> X10"),
		"_1 = X":                      set(t, "_1 -> X"),
		"X = _1":                      set(t, "_1 -> X"),
		"_2 = _10":                    set(t, "_2 -> _10"),
		"_10 = _2":                    set(t, "_2 -> _10"),
		"_1 = _10":                    set(t, "_10 -> _1"),
		"XA = Xa":                     set(t, "Xa -> XA"),
		"X = f(X,a)":                  fail(),
		"f(X,a) = X":                  fail(),
		"X = g(g(h(a,Y,f(a,X))))":     fail(),
		"g(g(h(a,Y,f(a,X)))) = X":     fail(),
		"X = plus(X,a)":               fail(),
		"plus(Y,Z) = Z":               fail(),
		"X = times(X,one)":            fail(),
		"times(X,one) = X":            fail(),
		"X = a":                       set(t, "X -> a"),
		"a = X":                       set(t, "X -> a"),
		"X = one":                     set(t, "X -> one"),
		"X = f(Y,a)":                  set(t, "X -> f(Y,a)"),
		"f(Y,a) = X":                  set(t, "X -> f(Y,a)"),
		"Y = f(X,X)":                  set(t, "Y -> f(X,X)"),
		"X = f(X2,Xa)":                set(t, "X -> f(X2,Xa)"),
		"X2 = g(X)":                   set(t, "X2 -> g(X)"),
		"X = plus(Y,Y,a)":             set(t, "X -> plus(Y,Y,a)"),
		"times(Y,one) = X":            set(t, "X -> times(Y,one)"),
		"a = b":                       fail(),
		"a = one":                     fail(),
		"f(X,a) = g(X)":               fail(),
		"g(X) = f(X,a)":               fail(),
		"f(X,Y) = a":                  fail(),
		"plus(X,a) = a":               fail(),
		"a = plus(X,a)":               fail(),
		"plus(X,Y) = times(X,Y)":      fail(),
		"plus(X,Y) = f(X,Y)":          fail(),
		"times(X,a) = a":              fail(),
		"times(X,Y) = one":            fail(),
		"f(X,a) = f(a,Y)":             parts(t, "X = a; a = Y"),
		"g(X) = g(a)":                 parts(t, "X = a"),
		"g(X) = g(g(X))":              parts(t, "X = g(X)"),
		"f(X,X) = f(Y,X)":             parts(t, "X = Y; X = X"),
		"f(a,b) = f(b,a)":             parts(t, "a = b; b = a"),
		"f(plus(X,a),Y) = f(plus(Y,Z),times(X,X))":  parts(t, "plus(X,a) = plus(Y,Z); Y = times(X,X)"),
		"h(X,Y,Z) = h(a,b,X)":                       parts(t, "X = a; Y = b; Z = X"),
		"k(X,a,Y,g(Z)) = k(a,X,f(Z,Z),Z)":           parts(t, "X = a; a = X; Y = f(Z,Z); g(Z) = Z"),
		"plus(X,a) = plus(Y,Z)":                     pure(plus),
		"plus(X,a) = plus(X,b)":                     pure(plus),
		"plus(X,a) = plus(X,X,a)":                   pure(plus),
		"plus(a,a) = plus(b,b)":                     pure(plus),
		"times(X,a) = times(Y,Z)":                   pure(times),
		"times(X,one) = times(one,one)":             pure(times),
		"times(X,Y,Z) = times(X,Y)":                 pure(times),
		"plus(X,f(X,a)) = plus(times(X,a),f(a,X))":  pure(plus),
		"times(X,plus(X,X)) = times(plus(X,X),one)": pure(times),
	} {
		wantWay(t, example(), equation(t, line), want)
	}
}

// TestOneByThePlainSignature: whoever solves hands that in; there an ACU symbol is an AC one.
func TestOneByThePlainSignature(t *testing.T) {
	s := signatures()[2]
	wantWay(t, s, equation(t, "times(X,one) = times(Y,a)"), pure(times))
	wantWay(t, s, equation(t, "times(X,one) = X"), fail())
	wantWay(t, s, equation(t, "X = times(Y,one)"), set(t, "X -> times(Y,one)"))
}

// TestOneByTheFirstSymbol: a variable, too, has the Sym 0, and is no term of the first symbol for all that.
func TestOneByTheFirstSymbol(t *testing.T) {
	x, y := v("X"), v("Y")
	s := sumFirst()
	wantWay(t, s, eq(x, y), api.Way{Act: api.Set, Bind: bind("Y", x)})
	wantWay(t, s, eq(x, sy(0, y, y)), api.Way{Act: api.Set, Bind: bind("X", sy(0, y, y))})
	wantWay(t, s, eq(sy(0, x, y), y), fail())
	wantWay(t, s, eq(sy(0, x, y), sy(0, y, y)), pure(0))
	wantWay(t, s, eq(sy(0, x, y), sy(3, x, y)), fail())
	wantWay(t, s, eq(sy(3, x, y), sy(3, y, y)), pure(3))
	s = freeFirst()
	wantWay(t, s, eq(sy(0, x, y), sy(0, y, y)), api.Way{Act: api.Parts, L: []api.Equation{eq(x, y), eq(y, y)}})
	wantWay(t, s, eq(sy(0, x, y), x), fail())
	wantWay(t, s, eq(sy(0, x, y), sy(1)), fail())
}

// TestOneOfUnlikeNumbers: terms that are not right, but the table names them; they are not the same, whatever they begin with.
func TestOneOfUnlikeNumbers(t *testing.T) {
	s := example()
	x, y := v("X"), v("Y")
	for _, e := range []api.Equation{
		eq(sy(f, x), sy(f, x, y)), eq(sy(f, x, y), sy(f, x)), eq(sy(f), sy(f, x)), eq(sy(f, x), sy(f)),
		eq(sy(a), sy(a, x)), eq(sy(g, x, y), sy(g, x)), eq(sy(f, x, y, x), sy(f, x, y)),
	} {
		wantWay(t, s, e, fail())
	}
	wantWay(t, s, eq(sy(f), sy(f)), done())
	wantWay(t, s, eq(sy(f, x), sy(f, y)), api.Way{Act: api.Parts, L: []api.Equation{eq(x, y)}})
}

// TestOneOfAllSmallEquations: every two small canonical terms, held against the table said again.
func TestOneOfAllSmallEquations(t *testing.T) {
	for _, s := range []api.Signature{example()[:7], sumFirst(), freeFirst()} {
		seen := map[api.Act]int{}
		l := smallCanonical(s, 4, "X", "Y")
		for _, x := range l {
			for _, y := range l {
				want := row(s, eq(x, y))
				wantWay(t, s, eq(x, y), want)
				seen[want.Act]++
			}
			if t.Failed() {
				return
			}
		}
		for _, act := range []api.Act{api.Done, api.Fail, api.Set, api.Parts} {
			if seen[act] < 10 {
				t.Errorf("only %d of %d", seen[act], act)
			}
		}
	}
}

func TestOneOfManyEquations(t *testing.T) {
	for i, s := range signatures() {
		m := newMaker(int64(150 + i))
		seen := map[api.Act]int{}
		for range 4000 {
			e := eq(m.canonical(s, 1+m.Intn(20)), m.canonical(s, 1+m.Intn(20)))
			switch m.Intn(6) {
			case 0:
				e.R = e.L
			case 1:
				e.L = v(varNames()[m.Intn(len(varNames()))])
			case 2:
				e.R = v(varNames()[m.Intn(len(varNames()))])
			}
			want := row(s, e)
			wantWay(t, s, e, want)
			seen[want.Act]++
			if t.Failed() {
				return
			}
		}
		for act := api.Done; act <= api.Pure; act++ {
			if seen[act] < 20 && (i < 3 || act < api.Pure) {
				t.Errorf("signature %d: only %d of %d", i, seen[act], act)
			}
		}
	}
}
