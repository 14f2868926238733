package unify_test

import (
	"testing"

	"amalgam/api"
	"amalgam/canon"
	"amalgam/subst"
	"amalgam/terms"
	"amalgam/unify"
)

// Is: equal as they are written, equal modulo the axioms alone, and not.
func TestIs(t *testing.T) {
	for _, x := range []struct {
		in, with string
		want     bool
	}{
		{"f(X,a) = f(a,Y)", "X -> a, Y -> a", true},
		{"f(X,a) = f(a,Y)", "X -> a", false},
		{"f(X,a) = f(a,Y)", "Y -> a", false},
		{"f(X,a) = f(a,Y)", "X -> a, Y -> b", false},
		{"f(X,a) = f(a,Y)", "X -> b, Y -> a", false},
		{"f(X,a) = f(a,X)", "X -> Y", false},
		{"X = Y", "", false},
		{"X = X", "", true},
		{"X = Y", "X -> Y", true},
		{"X = Y", "Y -> X", true},
		{"X = Y", "X -> Z, Y -> Z", true},
		{"X = Y", "X -> Y, Y -> X", false},
		{"X = Y", "X -> _1, Y -> _1", true},
		{"X = Y", "X -> _1, Y -> _2", false},
		{"X = f(X,a)", "X -> f(X,a)", false},
		{"plus(X,a) = plus(b,Y)", "X -> b, Y -> a", true},
		{"plus(X,a) = plus(b,Y)", "X -> plus(_1,b), Y -> plus(_1,a)", true},
		{"plus(X,a) = plus(b,Y)", "X -> plus(_1,b), Y -> plus(_2,a)", false},
		{"plus(X,Y) = plus(a,b,a)", "X -> plus(a,b), Y -> a", true},
		{"plus(X,Y) = plus(a,b,a)", "X -> plus(a,b), Y -> b", false},
		{"plus(X,a) = a", "X -> one", false},
		{"times(X,a) = a", "X -> one", true},
		{"times(X,a) = a", "X -> zero", false},
		{"times(X,a) = a", "", false},
		{"times(X,Y) = one", "X -> one, Y -> one", true},
		{"times(X,both(Y,a)) = a", "X -> one, Y -> one", true},
		{"times(X,sum(Y,a)) = a", "X -> one, Y -> one", false},
		{"times(X,sum(Y,a)) = a", "X -> one, Y -> zero", true},
		{"a = a", "", true},
		{"a = a", "X -> b, Z -> f(Y,Y)", true},
		{"a = b", "X -> b", false},
		{"times(one,a) = a", "", true},
		{"g(plus(a,b)) = g(plus(b,a))", "", true},
	} {
		wantIs(t, example(), equation(t, x.in), binds(t, x.with), x.want, api.OK)
	}
}

// TestIsOfNamesThatBeginWithAnUnderscore: Is takes them, wherever they are.
func TestIsOfNamesThatBeginWithAnUnderscore(t *testing.T) {
	wantIs(t, example(), equation(t, "_1 = _2"), binds(t, "_2 -> _1"), true, api.OK)
	wantIs(t, example(), equation(t, "plus(_1,X) = plus(a,_7)"), binds(t, "X -> a, _1 -> _7"), true, api.OK)
	wantIs(t, example(), equation(t, "_1 = _2"), nil, false, api.OK)
}

// Each error in its order: the signature's, the left side's, the right side's, the substitution's, a side that grows too great.
func TestIsErrors(t *testing.T) {
	right := sy(plus, v("X"), sy(a))
	great := sy(plus, many(20, v("X"))...)
	grown := []api.Bind{bind("X", tower(21, sy(a)))}
	wrong := []struct {
		b    []api.Bind
		want api.Errno
	}{
		{binds(t, "Y -> a, X -> a"), 71},
		{binds(t, "X -> X"), 71},
		{[]api.Bind{bind("x", sy(a))}, 71},
		{[]api.Bind{bind("", sy(a))}, 71},
		{[]api.Bind{bind("X", tower(401, sy(a)))}, 73},
		{binds(t, "X -> plus(b,a)"), 72},
		{binds(t, "X -> times(a,one)"), 72},
		{[]api.Bind{bind("X", sy(f, sy(a)))}, 72},
		{[]api.Bind{bind("X", sy(10))}, 72},
		{[]api.Bind{bind("X", sy(a)), bind("Y", sy(99)), bind("A", sy(a))}, 72},
		{[]api.Bind{bind("X", sy(a)), bind("A", sy(99))}, 71},
	}
	for _, x := range wrongSignatures() {
		wantIs(t, x.s, eq(right, right), nil, false, x.want)
		wantIs(t, x.s, eq(sy(99), v("x")), wrong[0].b, false, x.want)
		wantIs(t, x.s, eq(great, great), grown, false, x.want)
	}
	for _, x := range wrongTerms() {
		wantIs(t, example(), eq(x.t, right), nil, false, x.want)
		wantIs(t, example(), eq(right, x.t), nil, false, x.want)
		wantIs(t, example(), eq(great, x.t), grown, false, x.want)
		for _, y := range wrongTerms() {
			wantIs(t, example(), eq(x.t, y.t), wrong[0].b, false, x.want)
		}
		for _, y := range wrong {
			wantIs(t, example(), eq(right, x.t), y.b, false, x.want)
		}
	}
	for _, x := range wrong {
		wantIs(t, example(), eq(right, right), x.b, false, x.want)
		wantIs(t, example(), eq(sy(a), sy(b)), x.b, false, x.want)
	}
	// The wrong bind stands behind one that makes a side too great.
	wantIs(t, example(), eq(great, great), append(grown, bind("Y", sy(99))), false, 72)
}

// TestIsGrown: 400 nodes may be, as the terms are written; more may not, on either side.
func TestIsGrown(t *testing.T) {
	few, more := sy(plus, many(19, v("X"))...), sy(plus, append(many(19, v("X")), sy(a))...)
	grown := []api.Bind{bind("X", tower(21, sy(a)))} // 400 nodes, and 401
	wantIs(t, example(), eq(few, few), grown, true, api.OK)
	wantIs(t, example(), eq(few, sy(a)), grown, false, api.OK)
	wantIs(t, example(), eq(sy(a), few), grown, false, api.OK)
	wantIs(t, example(), eq(more, sy(a)), grown, false, api.ErrSubstGrown)
	wantIs(t, example(), eq(sy(a), more), grown, false, api.ErrSubstGrown)
	wantIs(t, example(), eq(more, more), grown, false, api.ErrSubstGrown)
	wantIs(t, example(), eq(more, few), grown, false, api.ErrSubstGrown)
	wantIs(t, example(), eq(few, more), grown, false, api.ErrSubstGrown)
	// What is left out once it is canonical counts all the same: 22 nodes, 18 times, and five beside them.
	sumOf := []api.Bind{bind("X", sy(plus, many(21, sy(a))...))}
	wantIs(t, example(), eq(sy(plus, append(many(18, v("X")), many(3, sy(a))...)...), sy(a)), sumOf, false, api.OK)
	wantIs(t, example(), eq(sy(plus, append(many(18, v("X")), many(4, sy(a))...)...), sy(a)), sumOf, false, api.ErrSubstGrown)
	wantIs(t, example(), eq(v("X"), v("X")), []api.Bind{bind("X", tower(400, sy(a)))}, true, api.OK)
	wantIs(t, example(), eq(v("X"), sy(g, v("X"))), []api.Bind{bind("X", tower(400, sy(a)))}, false, api.ErrSubstGrown)
}

// TestIsByTheWords: anything handed in, held against the chapter's words said again.
func TestIsByTheWords(t *testing.T) {
	seen := map[api.Errno]int{}
	yes := 0
	for i, s := range signatures() {
		m := newMaker(int64(740 + i))
		for j := range 1500 {
			q := m.equation(s, 8, 3)
			if j%3 == 0 {
				q = eq(m.spoilt(s, 6), m.spoilt(s, 6))
			}
			l, _ := unify.Unify(s, q.L, q.R)
			b := m.binds(s, l)
			want, wantE := isByTheWords(s, q, b)
			wantIs(t, s, q, b, want, wantE)
			seen[wantE]++
			if want {
				yes++
			}
		}
	}
	if yes < 200 || seen[api.OK] < 2*yes || len(seen) < 5 {
		t.Errorf("%d unify; %v", yes, seen)
	}
}

// binds makes some: an answer, an answer that is spoilt, or any.
func (m maker) binds(s api.Signature, l [][]api.Bind) []api.Bind {
	var b []api.Bind
	if len(l) > 0 && m.Intn(3) > 0 {
		b = l[m.Intn(len(l))]
	} else {
		for _, name := range []string{"X", "Xa", "Y"} {
			b = append(b, bind(name, canon.Canon(s, m.right(s, 4, 3))))
		}
	}
	if len(b) > 0 && m.Intn(3) == 0 {
		b[m.Intn(len(b))] = bind([]string{"X", "Y", "x", ""}[m.Intn(4)], m.spoilt(s, 4))
	}
	return b
}

func isByTheWords(s api.Signature, q api.Equation, b []api.Bind) (bool, api.Errno) {
	for _, x := range []api.Term{q.L, q.R} {
		if e := terms.Check(s, x); e != api.OK {
			return false, e
		}
	}
	if e, _ := subst.Check(s, b); e != api.OK {
		return false, e
	}
	if terms.Size(with(b, q.L)) > 400 || terms.Size(with(b, q.R)) > 400 {
		return false, 73
	}
	return unifies(s, q, b), api.OK
}
