package instance_test

import (
	"testing"

	"amalgam/api"
	"amalgam/instance"
)

// wantAlikeLine holds Alike of two lines of the example's, either way round, and what Is says of each way.
func wantAlikeLine(t *testing.T, vars, a, b string, there, back bool) {
	t.Helper()
	x := question{list(vars), binds(t, a), binds(t, b)}
	for _, y := range []struct {
		x  question
		is bool
	}{{x, there}, {x.back(), back}} {
		if _, is, e := instance.Is(example(), y.x.vars, y.x.a, y.x.b); is != y.is || e != api.OK {
			t.Errorf("Is, %v: %v, %d; want %v", y.x, is, e, y.is)
		}
		wantAlike(t, example(), y.x, there && back, api.OK)
	}
}

// True both ways.
func TestAlike(t *testing.T) {
	for _, x := range []struct{ vars, a, b string }{
		{"X Y", "X -> Y", "Y -> X"},
		{"X Y", "", ""},
		{"", "X -> a", "X -> one"},
		{"X", "", "X -> Y"},
		{"X Y", "", "X -> Y, Y -> X"},
		{"X Y", "", "X -> _1, Y -> _2"},
		{"X", "X -> f(_1,_2)", "X -> f(Y,X)"},
		{"X", "X -> plus(Y,Z,a)", "X -> plus(A,B,a)"},
		{"X", "X -> plus(Y,Y,Z)", "X -> plus(Y,Z,Z)"},
		{"X", "X -> times(Y,Z)", "X -> Y"}, // one of the factors may be the unit
		{"X", "X -> times(Y,Z)", ""},
		{"X", "X -> sum(Y,times(Z,W))", "X -> both(V,W)"},
		{"X", "X -> f(a,plus(b,g(one)))", "X -> f(a,plus(b,g(one)))"},
		{"X Y", "X -> f(Y,Y)", "X -> f(Z,Z), Y -> Z"},
		{"X", "X -> a, Y -> b", "X -> a, Y -> one"},
	} {
		wantAlikeLine(t, x.vars, x.a, x.b, true, true)
	}
}

// True one way alone.
func TestAlikeOneWay(t *testing.T) {
	for _, x := range []struct{ vars, a, b string }{
		{"X Y", "", "Y -> X"},
		{"X Y", "", "X -> a"},
		{"X", "X -> f(Y,Z)", "X -> f(Y,Y)"},
		{"X", "X -> plus(Y,Z)", "X -> plus(Y,Z,W)"},
		{"X", "X -> plus(Y,a)", "X -> plus(Y,Z,a)"},
		{"X", "X -> plus(Y,Z)", "X -> plus(a,b)"},
		{"X", "X -> times(Y,a)", "X -> a"},
		{"X Y", "X -> Y", "X -> plus(Z,W), Y -> plus(Z,W)"},
		{"X Y", "X -> _1", "X -> _1, Y -> _1"},
	} {
		wantAlikeLine(t, x.vars, x.a, x.b, true, false)
	}
}

// True neither way.
func TestAlikeNeither(t *testing.T) {
	for _, x := range []struct{ vars, a, b string }{
		{"X", "X -> a", "X -> one"},
		{"X", "X -> f(Y,a)", "X -> f(a,Y)"},
		{"X Y", "X -> a", "Y -> a"},
		{"X", "X -> plus(Y,Y)", "X -> plus(Z,a)"},
		{"X", "X -> g(Y)", "X -> plus(Y,Z)"},
		{"X Y Z", "X -> Y", "X -> Z"},
	} {
		wantAlikeLine(t, x.vars, x.a, x.b, false, false)
	}
}

// The errors of a and b come ahead of those of b and a: where both may not be, a's is told.
func TestErrorsOfAlike(t *testing.T) {
	for _, w := range wrongBinds() {
		for _, y := range wrongBinds() {
			wantAlike(t, example(), question{[]string{"X"}, w.l, y.l}, false, w.want)
			wantAlike(t, example(), question{[]string{"X"}, y.l, w.l}, false, y.want)
		}
		// Whether the other one would be an instance or not.
		wantError(t, example(), question{[]string{"V"}, w.l, nil}, w.want)
		wantError(t, example(), question{[]string{"V"}, binds(t, "V -> a"), w.l}, w.want)
	}
}

// Each way's search may give up, whatever the other way says.
func TestErrorOfEitherSearch(t *testing.T) {
	s := example()
	const many = "X -> times(A,B,C,D,E,F,G,H,I,J,K,L,M)"
	for _, x := range []struct {
		a, b        string
		there, back api.Errno
		is          bool // of the way that does not give up
	}{
		{many, "X -> a", api.ErrTooMany, api.OK, false},
		{"X -> a", many, api.OK, api.ErrTooMany, false},
		{many, "", api.ErrTooMany, api.OK, true},
		{"", many, api.OK, api.ErrTooMany, true},
		{many, many, api.ErrTooMany, api.ErrTooMany, false},
		{"X -> plus(A,B)", "X -> plus(A,B,C,D,E,F)", api.ErrTooMany, api.ErrTooMany, false},
		{"X -> plus(A,B)", "X -> plus(a,a,a,a,a,a,a)", api.ErrTooMany, api.OK, false},
		{"X -> plus(a,a,a,a,a,a,a)", "X -> plus(A,B)", api.OK, api.ErrTooMany, false},
	} {
		y := question{list("X"), binds(t, x.a), binds(t, x.b)}
		for _, way := range []struct {
			x question
			e api.Errno
		}{{y, x.there}, {y.back(), x.back}} {
			if r, is, e := instance.Is(s, way.x.vars, way.x.a, way.x.b); e != way.e || is != (x.is && e == api.OK) || e != api.OK && len(r) > 0 {
				t.Errorf("Is, %v: %s, %v, %d; want %d", way.x, told(r), is, e, way.e)
			}
			wantAlike(t, s, way.x, false, api.ErrTooMany)
		}
	}
}

// Alike is the same either way round, and says what Is says of both ways.
func TestAlikeIsBothWays(t *testing.T) {
	for i, s := range signatures() {
		m := newMaker(int64(1120 + i))
		var both, single, neither int
		for j := range 2000 {
			x := m.question(s, varNames()[:2+j%8], 2+j%7)
			_, there, e := instance.Is(s, x.vars, x.a, x.b)
			_, back, no := instance.Is(s, x.vars, x.b, x.a)
			if e != api.OK || no != api.OK {
				continue
			}
			wantAlike(t, s, x, there && back, api.OK)
			wantAlike(t, s, x.back(), there && back, api.OK)
			switch {
			case there && back:
				both++
			case there || back:
				single++
			default:
				neither++
			}
		}
		if both < 200 || single < 200 || neither < 100 {
			t.Errorf("signature %d: %d both ways, %d one way, %d neither", i, both, single, neither)
		}
	}
}
