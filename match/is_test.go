package match_test

import (
	"strconv"
	"testing"

	"amalgam/api"
	"amalgam/canon"
	"amalgam/match"
	"amalgam/subst"
)

// Is: a substitution that matches and one that doesn't; one that binds too few, too many, other variables.
func TestIs(t *testing.T) {
	for _, x := range []struct {
		in, with string
		want     bool
	}{
		{"plus(X,Y) = plus(a,one)", "X -> a, Y -> one", true},
		{"plus(X,Y) = plus(a,one)", "X -> one, Y -> a", true},
		{"plus(X,Y) = plus(a,one)", "X -> a, Y -> a", false},
		{"plus(X,Y) = plus(a,one)", "X -> a", false},
		{"plus(X,Y) = plus(a,one)", "Y -> one", false},
		{"plus(X,Y) = plus(a,one)", "", false},
		{"plus(X,Y) = plus(a,one)", "X -> a, Y -> one, Z -> a", false},
		{"plus(X,Y) = plus(a,one)", "W -> a, X -> a, Y -> one", false},
		{"plus(X,Y) = plus(a,one)", "X -> a, Z -> one", false},
		{"plus(X,Y) = plus(a,a)", "X -> a, Z -> a", false},
		{"plus(X,Y) = plus(a,b,one)", "X -> plus(a,one), Y -> b", true},
		{"plus(X,X) = plus(a,b,b,a)", "X -> plus(a,b)", true},
		{"plus(X,X) = plus(a,b,b)", "X -> plus(a,b)", false},
		{"a = a", "", true},
		{"a = b", "", false},
		{"a = a", "X -> a", false},
		{"plus(a,b) = plus(b,a)", "", true},
		{"times(a,one) = a", "", true},
		{"times(X,a) = a", "X -> one", true},
		{"times(X,a) = a", "X -> zero", false},
		{"times(X,a) = a", "X -> a", false},
		{"times(X,sum(Y,a)) = a", "X -> one, Y -> zero", true},
		{"times(X,sum(Y,a)) = a", "X -> zero, Y -> one", false},
		{"f(X,a) = f(Y,a)", "X -> Y", true},
		{"f(X,a) = f(Y,a)", "X -> Z", false},
		// Constants are not bound, though it would be equal.
		{"X = X", "", true},
		{"X = X", "X -> a", false},
		{"X = Y", "X -> Y", true},
		{"X = Y", "X -> a, Y -> a", false},
		{"X = f(X,a)", "X -> f(X,a)", false},
		{"plus(X,Z) = plus(a,Z)", "X -> a", true},
		{"plus(X,Z) = plus(a,Z)", "X -> a, Z -> b", false},
		{"f(X,Y) = f(Y,X)", "X -> Y, Y -> X", false},
		{"f(X,Y) = f(Y,X)", "", false},
		{"plus(X,Y) = plus(Y,X)", "", true},
		{"times(X,Y) = X", "Y -> one", true},
		{"times(X,Y) = X", "", false},
		{"_1 = _2", "_1 -> _2", true},
		{"_1 = _2", "_2 -> _1", false},
	} {
		y := read(t, x.in)
		wantIs(t, example(), y.p[0], y.t[0], binds(t, x.with), x.want, api.OK)
	}
}

// Each error in its order: the signature's, the pattern's, the subject's, the substitution's, a pattern that grows too great.
func TestIsErrors(t *testing.T) {
	right := sy(plus, v("X"), sy(a))
	great := sy(plus, many(20, v("X"))...)
	grown := []api.Bind{bind("X", tower(21, sy(a)))}
	wrong := []struct {
		b    []api.Bind
		want api.Errno
	}{
		{binds(t, "Y -> a, X -> a"), api.ErrSubstVar},
		{binds(t, "X -> X"), api.ErrSubstVar},
		{[]api.Bind{bind("x", sy(a))}, api.ErrSubstVar},
		{[]api.Bind{bind("", sy(a))}, api.ErrSubstVar},
		{[]api.Bind{bind("X", tower(401, sy(a)))}, api.ErrSubstGrown},
		{binds(t, "X -> plus(b,a)"), api.ErrSubstTerm},
		{binds(t, "X -> times(a,one)"), api.ErrSubstTerm},
		{[]api.Bind{bind("X", sy(f, sy(a)))}, api.ErrSubstTerm},
		{[]api.Bind{bind("X", sy(10))}, api.ErrSubstTerm},
		{[]api.Bind{bind("X", sy(a)), bind("Y", sy(99)), bind("A", sy(a))}, api.ErrSubstTerm},
		{[]api.Bind{bind("X", sy(a)), bind("A", sy(99))}, api.ErrSubstVar},
	}
	for _, x := range wrongSignatures() {
		wantIs(t, x.s, right, sy(a), nil, false, x.want)
		wantIs(t, x.s, sy(99), v("x"), wrong[0].b, false, x.want)
		wantIs(t, x.s, great, sy(a), grown, false, x.want)
	}
	for _, x := range wrongTerms() {
		wantIs(t, example(), x.t, right, nil, false, x.want)
		wantIs(t, example(), right, x.t, nil, false, x.want)
		wantIs(t, example(), great, x.t, grown, false, x.want)
		for _, y := range wrongTerms() {
			wantIs(t, example(), x.t, y.t, wrong[0].b, false, x.want)
		}
		for _, y := range wrong {
			wantIs(t, example(), right, x.t, y.b, false, x.want)
			wantIs(t, example(), x.t, right, y.b, false, x.want)
		}
	}
	for _, x := range wrong {
		wantIs(t, example(), right, sy(plus, sy(a), sy(a)), x.b, false, x.want)
		wantIs(t, example(), sy(a), sy(b), x.b, false, x.want)
	}
	// The wrong bind stands behind one that makes the pattern too great.
	wantIs(t, example(), great, sy(a), append(grown, bind("Y", sy(99))), false, api.ErrSubstTerm)
}

// TestIsGrown: 400 nodes may be, as the terms are written; of the subject nothing is asked.
func TestIsGrown(t *testing.T) {
	leaf := tower(21, sy(a))
	few, more := sy(plus, many(19, v("X"))...), sy(plus, append(many(19, v("X")), sy(a))...)
	grown := []api.Bind{bind("X", leaf)} // 400 nodes, and 401
	whole := sy(plus, many(19, leaf)...)
	wantIs(t, example(), few, whole, grown, true, api.OK)
	wantIs(t, example(), few, sy(a), grown, false, api.OK)
	wantIs(t, example(), more, sy(a), grown, false, api.ErrSubstGrown)
	wantIs(t, example(), more, whole, grown, false, api.ErrSubstGrown)
	wantIs(t, example(), v("Y"), sy(plus, many(399, v("X"))...), []api.Bind{bind("Y", sy(plus, many(399, v("X"))...))}, true, api.OK)
	// It grows too great ahead of being a substitution of other variables: of a constant, of too many.
	wantIs(t, example(), more, v("X"), grown, false, api.ErrSubstGrown)
	wantIs(t, example(), few, v("X"), grown, false, api.OK)
	wantIs(t, example(), more, sy(a), append(grown, bind("Y", sy(a))), false, api.ErrSubstGrown)
	// Units count, as they are written.
	units := sy(times, append(many(399, v("X")), sy(a))...)
	wantIs(t, example(), units, sy(a), []api.Bind{bind("X", sy(one))}, false, api.ErrTermsLong)
	units = sy(times, append(many(398, v("X")), sy(a))...)
	wantIs(t, example(), units, sy(a), []api.Bind{bind("X", sy(one))}, true, api.OK)
	wantIs(t, example(), units, sy(a), []api.Bind{bind("X", sy(g, sy(a)))}, false, api.ErrSubstGrown)
}

// TestIsHasNoLimitOfTheWalk: it tells what All can't.
func TestIsHasNoLimitOfTheWalk(t *testing.T) {
	for _, x := range []struct{ in, with string }{
		{"plus(X,Y) = plus(a,a,a,a,a,a,a,b)", "X -> plus(a,b), Y -> plus(a,a,a,a,a,a)"},
		{"times(A,B,C,D,E,F,G,H,I,J,K,L,M) = b", "A -> one, B -> one, C -> one, D -> one, E -> one, F -> one, G -> b, H -> one, I -> one, J -> one, K -> one, L -> one, M -> one"},
	} {
		y := read(t, x.in)
		wantError(t, example(), y, api.ErrTooMany)
		wantIs(t, example(), y.p[0], y.t[0], binds(t, x.with), true, api.OK)
		other := binds(t, x.with)
		other[0].T = sy(zero)
		wantIs(t, example(), y.p[0], y.t[0], other, false, api.OK)
		wantIs(t, example(), y.p[0], y.t[0], other[1:], false, api.OK)
	}
}

// TestIsOfMany: many binds, and as many variables.
func TestIsOfMany(t *testing.T) {
	var p []api.Term
	var b []api.Bind
	for i := range 399 {
		name := "V" + strconv.Itoa(1000+i)
		p, b = append(p, v(name)), append(b, bind(name, sy(a)))
	}
	wantIs(t, example(), sy(plus, p...), sy(plus, many(399, sy(a))...), b, true, api.OK)
	wantIs(t, example(), sy(plus, p...), sy(plus, many(399, sy(a))...), b[1:], false, api.OK)
	wantIs(t, example(), sy(plus, p...), sy(plus, many(398, sy(a))...), b, false, api.OK)
}

// Of any terms and binds: what the words say.
func TestIsByWords(t *testing.T) {
	for i, s := range signatures() {
		m := newMaker(int64(930 + i))
		met := map[string]int{}
		for range 4000 {
			x := m.problem(s, 1, 9, 3)
			vars, _ := x.vars()
			b := m.binds(s, x)
			is, e := match.Is(s, x.p[0], x.t[0], b)
			want, wantE := true, api.OK
			if no, _ := subst.Check(s, b); no != api.OK {
				want, wantE = false, no
			} else if len(b) != len(vars) {
				want = false
			}
			for j := range min(len(b), len(vars)) {
				want = want && b[j].Var == vars[j]
			}
			want = want && canon.Equal(s, with(b, x.p[0]), x.t[0])
			if is != want || e != wantE {
				t.Fatalf("%v with %s: %v, %d; want %v, %d", x, toldBinds(b), is, e, want, wantE)
			}
			met[strconv.FormatBool(is)+strconv.Itoa(int(e))]++
		}
		if met["true0"] < 200 || met["false0"] < 200 || met["false71"] < 10 || met["false72"] < 10 {
			t.Errorf("signature %d: %v", i, met)
		}
	}
}

// binds makes what may match: a matcher, or one that is spoilt.
func (m maker) binds(s api.Signature, x problem) []api.Bind {
	l, _ := match.Many(s, x.p, x.t)
	var b []api.Bind
	if len(l) > 0 && m.Intn(8) > 0 {
		b = l[m.Intn(len(l))]
	} else {
		vars, _ := x.vars()
		for _, name := range vars {
			b = append(b, bind(name, canon.Canon(s, m.right(s, 1+m.Intn(4), "C", "D"))))
		}
	}
	if m.Intn(2) == 0 || len(b) == 0 {
		return b
	}
	at := m.Intn(len(b))
	switch m.Intn(5) {
	case 0:
		return append(b[:at:at], b[at+1:]...)
	case 1:
		b[at].T = canon.Canon(s, m.right(s, 1+m.Intn(4), varNames()...))
	case 2:
		b[at].T = m.right(s, 1+m.Intn(4), varNames()...)
	case 3:
		b[at].Var = varNames()[m.Intn(5)]
	default:
		b = append(b, bind("Zz", sy(1)))
	}
	return b
}
