package instance_test

import (
	"slices"
	"strconv"
	"testing"

	"amalgam/api"
)

// wrongSignatures have each error of sig's Check.
func wrongSignatures() []struct {
	s    api.Signature
	want api.Errno
} {
	set := func(at int, x api.Symbol) api.Signature {
		s := example()
		s[at] = x
		return s
	}
	return []struct {
		s    api.Signature
		want api.Errno
	}{
		{set(2, api.Symbol{Name: "F", Kind: api.Free, Arity: 2}), api.ErrSigName},
		{set(5, api.Symbol{Name: "a", Kind: api.Free}), api.ErrSigName},
		{set(0, api.Symbol{Name: "a", Kind: 4}), api.ErrSigKind},
		{set(2, api.Symbol{Name: "f", Kind: api.Free, Arity: 5}), api.ErrSigArity},
		{set(3, api.Symbol{Name: "plus", Kind: api.AC, Arity: 3}), api.ErrSigArity},
		{set(4, api.Symbol{Name: "times", Kind: api.ACU, Arity: 2, Unit: "two"}), api.ErrSigUnit},
		{append(example(), make(api.Signature, 7)...), api.ErrSigMany},
		{api.Signature{{}}, api.ErrSigName},
	}
}

// names80 are eighty names, no two alike.
func names80() []string {
	var l []string
	for i := range 80 {
		l = append(l, "V"+strconv.Itoa(i))
	}
	return l
}

// wrongVars are more than there may be, names that are none, names that stand twice.
func wrongVars() [][]string {
	l := [][]string{
		append(names80(), "X"), append(names80(), "V79"), slices.Repeat([]string{"x"}, 1000000),
		{"X", "X"}, {"X", "Y", "X"}, {"_1", "X", "Y", "Z", "_1"}, append(names80()[:79], "V0"), append(names80()[:79], "V78"),
	}
	for _, name := range []string{"", "x", "a", "one", "_", "_0", "_01", "_x", "X_", "Xä", " X", "X ", "1", "Abcdefghijklm", "_123456789012", "f(X)", "->"} {
		l = append(l, []string{name}, []string{"X", "Y", name}, []string{name, "X", "X"}, append(names80()[:79], name))
	}
	return l
}

// wrongBinds have each error of subst's Check, at the first place and behind others.
func wrongBinds() []struct {
	l    []api.Bind
	want api.Errno
} {
	return []struct {
		l    []api.Bind
		want api.Errno
	}{
		{[]api.Bind{bind("x", sy(a))}, api.ErrSubstVar},
		{[]api.Bind{bind("", sy(a))}, api.ErrSubstVar},
		{[]api.Bind{bind("X", v("X"))}, api.ErrSubstVar},
		{[]api.Bind{bind("Y", sy(a)), bind("X", sy(a))}, api.ErrSubstVar},
		{[]api.Bind{bind("X", sy(a)), bind("X", sy(a))}, api.ErrSubstVar},
		{[]api.Bind{bind("X", sy(a)), bind("_9", sy(a)), bind("_10", sy(a))}, api.ErrSubstVar},
		{[]api.Bind{bind("X", tower(401, sy(a)))}, api.ErrSubstGrown},
		{[]api.Bind{bind("X", sy(a)), bind("Y", sy(plus, many(400, sy(a))...))}, api.ErrSubstGrown},
		{[]api.Bind{bind("X", sy(plus, sy(b), sy(a)))}, api.ErrSubstTerm},
		{[]api.Bind{bind("X", sy(times, sy(one), sy(a)))}, api.ErrSubstTerm},
		{[]api.Bind{bind("X", sy(a)), bind("Y", sy(99))}, api.ErrSubstTerm},
		{[]api.Bind{bind("X", sy(f, sy(a)))}, api.ErrSubstTerm},
		{[]api.Bind{bind("X", v("x"))}, api.ErrSubstTerm},
		{[]api.Bind{bind("Zz", sy(f, sy(f, sy(a), v("_0")), sy(a)))}, api.ErrSubstTerm},
	}
}

// Each error in its order: that of sig's Check, ErrInstanceVar, subst's Check's of a, then of b.
func TestErrorsOfSignatures(t *testing.T) {
	right := binds(t, "X -> a")
	for _, w := range wrongSignatures() {
		wantError(t, w.s, question{}, w.want)
		wantError(t, w.s, question{[]string{"X"}, right, right}, w.want)
		for _, vars := range wrongVars() {
			wantError(t, w.s, question{vars, nil, nil}, w.want)
			wantError(t, w.s, question{vars, wrongBinds()[0].l, wrongBinds()[6].l}, w.want)
		}
		for _, y := range wrongBinds() {
			wantError(t, w.s, question{[]string{"X"}, y.l, nil}, w.want)
			wantError(t, w.s, question{[]string{"X"}, nil, y.l}, w.want)
		}
	}
	wantError(t, make(api.Signature, 1000000), question{}, api.ErrSigMany)
}

func TestErrorsOfVars(t *testing.T) {
	for _, s := range signatures() {
		for _, vars := range wrongVars() {
			wantError(t, s, question{vars, nil, nil}, api.ErrInstanceVar)
		}
	}
	wantError(t, nil, question{[]string{"x"}, nil, nil}, api.ErrInstanceVar)
	for _, vars := range wrongVars() {
		for _, y := range wrongBinds() {
			wantError(t, example(), question{vars, y.l, nil}, api.ErrInstanceVar)
			wantError(t, example(), question{vars, nil, y.l}, api.ErrInstanceVar)
			wantError(t, example(), question{vars, y.l, y.l}, api.ErrInstanceVar)
		}
	}
}

// Of a, of b, and of both: whether vars have the bind's variable or not.
func TestErrorsOfBinds(t *testing.T) {
	right := binds(t, "X -> a, Y -> f(X,_1)")
	for _, vars := range [][]string{nil, {"X"}, {"Y", "Xx", "_1"}, names80()} {
		for _, w := range wrongBinds() {
			for _, other := range [][]api.Bind{nil, right} {
				wantError(t, example(), question{vars, w.l, other}, w.want)
				wantError(t, example(), question{vars, other, w.l}, w.want)
			}
			for _, y := range wrongBinds() {
				x := question{vars, w.l, y.l}
				wantIs(t, example(), x, nil, false, w.want)
				wantAlike(t, example(), x, false, w.want)
			}
		}
	}
}

// No vars, eighty of them, and one more.
func TestHowManyVars(t *testing.T) {
	s := example()
	for _, s := range append(signatures(), nil) {
		wantIs(t, s, question{}, nil, true, api.OK)
		wantIs(t, s, question{vars: []string{}}, nil, true, api.OK)
		wantAlike(t, s, question{}, true, api.OK)
	}
	// Of no variables each is an instance of each.
	wantIs(t, s, question{nil, binds(t, "X -> a"), binds(t, "X -> one")}, nil, true, api.OK)
	wantAlike(t, s, question{nil, binds(t, "X -> a"), binds(t, "X -> one")}, true, api.OK)
	// Eighty variables, of which the last one counts, too.
	l := names80()
	var k, other []api.Bind
	for _, name := range []string{"V0", "V1", "V79"} {
		k = append(k, bind(name, v("X")))
		other = append(other, bind(name, sy(a)))
	}
	for _, n := range []int{1, 2, 79, 80} {
		wantIs(t, s, question{l[:n], nil, nil}, nil, true, api.OK)
		wantIs(t, s, question{l[:n], k, other}, binds(t, "X -> a"), true, api.OK)
		wantIs(t, s, question{l[:n], other, k}, nil, false, api.OK)
	}
	other[2].T = sy(one)
	wantIs(t, s, question{l[:79], k, other}, binds(t, "X -> a"), true, api.OK)
	wantIs(t, s, question{l, k, other}, nil, false, api.OK)
	slices.Reverse(l)
	wantIs(t, s, question{l[1:], k, other}, binds(t, "X -> a"), true, api.OK)
	wantIs(t, s, question{l, k, other}, nil, false, api.OK)
	wantError(t, s, question{append(l, "V80"), k, other}, api.ErrInstanceVar)
}

// Names that are variables' may be asked for, whether a or b binds them or not.
func TestNamesOfVars(t *testing.T) {
	for _, name := range []string{"X", "Z9", "Abcdefghijkl", "_1", "_10", "_12345678901"} {
		x := question{[]string{name}, nil, []api.Bind{bind(name, sy(a))}}
		wantIs(t, example(), x, x.b, true, api.OK)
		wantIs(t, example(), x.back(), nil, false, api.OK)
		wantIs(t, example(), question{[]string{name}, x.b, x.b}, nil, true, api.OK)
		wantIs(t, example(), question{[]string{name}, nil, nil}, nil, true, api.OK)
	}
	// Without a symbol there are variables all the same.
	x := question{[]string{"X", "Y"}, []api.Bind{bind("X", v("Z"))}, []api.Bind{bind("X", v("Y"))}}
	wantIs(t, nil, x, []api.Bind{bind("Z", v("Y"))}, true, api.OK)
	wantAlike(t, nil, x, false, api.OK)
}

// The error of the search, ErrTooMany: it is told ahead of nothing found, and behind all that is wrong with what comes in.
func TestErrorOfTheSearch(t *testing.T) {
	s := example()
	for _, x := range []struct{ a, b string }{
		{"X -> times(A,B,C,D,E,F,G,H,I,J,K,L,M)", "X -> a"},      // 2 to the 13 ways
		{"X -> plus(A,B,C,D,E,F)", "X -> plus(a,b,C,D,E,F)"},     // more takers than may be
		{"X -> plus(A,B)", "X -> plus(a,a,a,a,a,a,a,b)"},         // more of one kind than may be
		{"X -> plus(A,B), Y -> b", "X -> plus(a,a,a,a,a,a,a)"},   // and nothing would be found
		{"X -> plus(A,A,B), Y -> A", "X -> plus(a,b,C,D,E,F,Y)"}, // more kinds than may be
	} {
		y := question{list("X Y"), binds(t, x.a), binds(t, x.b)}
		wantIs(t, s, y, nil, false, api.ErrTooMany)
		wantAlike(t, s, y, false, api.ErrTooMany)
		wantAlike(t, s, y.back(), false, api.ErrTooMany)
		y.vars = append(y.vars, "X")
		wantError(t, s, y, api.ErrInstanceVar)
		y.vars = list("X Y")
		y.b = append(y.b, bind("A", sy(a)))
		wantError(t, s, y, api.ErrSubstVar)
		// Of other variables there is nothing to search for.
		y = question{list("Z W"), binds(t, x.a), binds(t, x.b)}
		wantIs(t, s, y, nil, true, api.OK)
	}
	// Twelve variables are not too many yet; what is known already is no unit.
	wantIs(t, s, question{list("X"), binds(t, "X -> times(A,B,C,D,E,F,G,H,I,J,K,L)"), binds(t, "X -> one")}, binds(t, "A -> one, B -> one, C -> one, D -> one, E -> one, F -> one, G -> one, H -> one, I -> one, J -> one, K -> one, L -> one"), true, api.OK)
}
