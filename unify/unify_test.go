package unify_test

import (
	"slices"
	"strconv"
	"testing"

	"amalgam/api"
	"amalgam/canon"
	"amalgam/sig"
	"amalgam/terms"
	"amalgam/text"
	"amalgam/unify"
)

// The chapter's examples, word by word, by its own signature.
func TestExamples(t *testing.T) {
	for _, x := range []struct {
		in   string
		want [][]api.Bind
	}{
		{"f(X,a) = f(a,Y)", lists(t, "X -> a, Y -> a")},
		{"plus(X,a) = plus(Y,a)", lists(t, "Y -> X")},
		{"plus(X,a) = a", nil},
		{"times(X,a) = a", lists(t, "X -> one")},
	} {
		wantUnify(t, document(), equation(t, x.in), x.want, api.OK)
	}
}

// The document's examples of the whole, as far as they speak of Unify.
func TestExamplesOfTheWhole(t *testing.T) {
	for _, x := range []struct {
		in   string
		want []string
	}{
		{"plus(a,plus(X,a)) = plus(X,a,a)", []string{""}},
		{"plus(X,a) = plus(Y,one)", []string{"X -> one, Y -> a", "X -> plus(_1,one), Y -> plus(_1,a)"}},
		{"f(X,X) = f(plus(Y,a),plus(a,one))", []string{"X -> plus(a,one), Y -> one"}},
		{"times(X,Y) = times(Y,X)", []string{"", "Y -> one", "X -> one", "X -> one, Y -> one"}},
		{"plus(X,Y) = plus(Z,W)", []string{
			"Y -> W, Z -> X",
			"Y -> plus(W,_1), Z -> plus(X,_1)",
			"X -> W, Z -> Y",
			"W -> plus(X,_1), Y -> plus(Z,_1)",
			"X -> plus(W,_1), Z -> plus(Y,_1)",
			"W -> plus(Y,_1), X -> plus(Z,_1)",
			"W -> plus(_1,_2), X -> plus(_2,_3), Y -> plus(_1,_4), Z -> plus(_3,_4)",
		}},
	} {
		wantUnify(t, document(), equation(t, x.in), lists(t, x.want...), api.OK)
	}
}

func TestNoVariables(t *testing.T) {
	for _, line := range []string{"a = a", "f(a,b) = f(a,b)", "plus(a,one) = plus(one,a)", "plus(a,plus(b,a)) = plus(plus(a,a),b)", "times(a,one) = a", "times(one,one) = one", "one = both(one,times(one,one))", "g(sum(zero,times(one,a))) = g(a)", "sum(zero,zero) = zero"} {
		wantLines(t, line, "")
	}
	for _, line := range []string{"a = b", "a = one", "one = zero", "f(a,b) = f(b,a)", "plus(a,a) = a", "plus(a,b) = plus(a,a)", "plus(a,one) = a", "times(a,zero) = a", "times(a,a) = both(a,a)", "g(a) = a"} {
		wantLines(t, line)
	}
}

// TestEqualSides: written alike, and equal modulo the axioms alone.
func TestEqualSides(t *testing.T) {
	for _, line := range []string{"X = X", "f(X,Y) = f(X,Y)", "plus(X,Y) = plus(X,Y)", "plus(X,Y,a) = plus(a,plus(Y,X))", "f(plus(X,a),Y) = f(plus(a,X),Y)", "g(plus(X,plus(Y,Z))) = g(plus(plus(Z,Y),X))"} {
		wantLines(t, line, "")
	}
	for _, line := range []string{"times(X,one) = X", "times(X,a) = times(a,X)", "f(X,times(one,X)) = f(times(X,one),X)", "both(X,one) = times(one,X)"} {
		wantLines(t, line, "", "X -> one")
	}
	wantLines(t, "times(X,one) = sum(X,zero)", "", "X -> one", "X -> zero")
}

func TestNoUnifier(t *testing.T) {
	for _, line := range []string{"plus(X,a) = a", "X = f(X,a)", "g(X) = X", "X = plus(X,a)", "X = times(X,a)", "f(X,a) = f(b,X)", "plus(X,X) = plus(a,b)", "plus(X,Y) = X", "times(X,a) = one", "times(X,X) = times(a,a,a)", "sum(X,a) = times(X,a)", "f(X,times(X,Y)) = f(Y,a)", "plus(X,a) = times(Y,Z,b)", "plus(X,g(a)) = plus(Y,Y,g(b),g(b),Y,f(X,a))"} {
		wantLines(t, line)
	}
}

func TestFreeSymbols(t *testing.T) {
	wantLines(t, "X = Y", "Y -> X")
	wantLines(t, "Y = X", "Y -> X")
	wantLines(t, "X = a", "X -> a")
	wantLines(t, "g(f(a,b)) = X", "X -> g(f(a,b))")
	wantLines(t, "f(X,Y) = f(Y,Z)", "Y -> X, Z -> X")
	wantLines(t, "f(X,g(X)) = f(g(Y),Z)", "X -> g(Y), Z -> g(g(Y))")
	wantLines(t, "f(f(X,Y),f(Y,Z)) = f(f(a,Z),f(b,W))", "W -> b, X -> a, Y -> b, Z -> b")
}

// TestNoUnits: the signature has units, the terms have no symbol of theirs; so a unit is a constant as any other, and there is one way alone.
func TestNoUnits(t *testing.T) {
	wantLines(t, "plus(X,Y) = plus(one,zero)", "X -> zero, Y -> one", "X -> one, Y -> zero")
	wantLines(t, "plus(X,one) = one")
	wantLines(t, "f(X,one) = f(zero,Y)", "X -> zero, Y -> one")
	wantLines(t, "X = one", "X -> one")
	wantLines(t, "plus(X,X) = plus(Y,Y,Y)", "X -> plus(_1,_1,_1), Y -> plus(_1,_1)")
	wantLines(t, "plus(X,a) = plus(Y,Y)", "X -> a, Y -> a", "X -> plus(_1,_1,a), Y -> plus(_1,a)")
}

// TestOneUnit: way by way, rising, the first variable's digit being the first one.
func TestOneUnit(t *testing.T) {
	wantLines(t, "times(X,Y) = a", "X -> a, Y -> one", "X -> one, Y -> a")
	wantLines(t, "times(X,Y) = Z", "Z -> times(X,Y)", "Y -> one, Z -> X", "X -> one, Y -> one, Z -> one", "X -> one, Z -> Y")
	wantLines(t, "times(X,a) = times(Y,b)", "X -> b, Y -> a", "X -> times(_1,b), Y -> times(_1,a)")
	wantLines(t, "times(X,g(X)) = g(Y)", "X -> one, Y -> one")
	wantLines(t, "plus(X,times(Y,a)) = plus(a,b)", "X -> b, Y -> one")
	wantLines(t, "X = times(Y,a)", "X -> times(Y,a)", "X -> a, Y -> one")
	wantLines(t, "times(Y,a) = X", "X -> times(Y,a)", "X -> a, Y -> one")
	// One unit of two symbols counts once.
	wantLines(t, "times(X,both(Y,a)) = a", "X -> one, Y -> one")
	wantLines(t, "times(X,a) = both(Y,a)", "X -> one, Y -> one")
}

func TestSeveralUnits(t *testing.T) {
	wantLines(t, "sum(X,a) = times(Y,a)", "X -> zero, Y -> one")
	wantLines(t, "sum(X,times(Y,a)) = a", "X -> zero, Y -> one")
	wantLines(t, "f(sum(X,a),times(Y,a)) = f(a,a)", "X -> zero, Y -> one")
	wantLines(t, "f(sum(X,Y),times(X,Y)) = f(one,zero)", "X -> one, Y -> zero", "X -> zero, Y -> one")
	wantLines(t, "f(sum(X,a),Y) = f(Y,times(X,a))")
	// The units are those of the symbols in the terms, not those at other places of the terms, nor all of the signature's.
	wantLines(t, "sum(X,one) = sum(one,X)", "", "X -> zero")
	// Places rise: one stands ahead of zero in the signature, whichever symbol comes first.
	wantLines(t, "f(sum(X,zero),times(X,one)) = f(X,X)", "", "X -> one", "X -> zero")
}

// TestUnitsOfTheOtherSide: symbols of either side count.
func TestUnitsOfTheOtherSide(t *testing.T) {
	wantLines(t, "f(X,a) = f(X,times(Y,a))", "Y -> one", "X -> one, Y -> one")
	wantLines(t, "f(X,times(Y,a)) = f(X,a)", "Y -> one", "X -> one, Y -> one")
	wantLines(t, "X = f(times(Y,a),a)", "X -> f(times(Y,a),a)", "X -> f(a,a), Y -> one")
}

// TestAUnitInOneWay: a variable is a unit in one way, and none in another.
func TestAUnitInOneWay(t *testing.T) {
	wantLines(t, "times(X,X) = times(Y,Y)", "Y -> X", "X -> one, Y -> one")
	wantLines(t, "times(X,a) = times(Y,a)", "Y -> X", "X -> one, Y -> one")
	wantLines(t, "times(X,Y) = times(X,a)", "Y -> a", "X -> one, Y -> a")
	wantLines(t, "times(X,a) = times(Y,one)", "Y -> times(X,a)", "X -> one, Y -> a")
	wantLines(t, "f(X,times(X,Y)) = f(a,Z)", "X -> a, Z -> times(Y,a)", "X -> a, Y -> one, Z -> a")
}

// TestSameAnswersOnce: a form of one way and another way's own units, and two forms of one way.
func TestSameAnswersOnce(t *testing.T) {
	for _, x := range []struct {
		in    string
		forms int
		want  []string
	}{
		{"times(X,Y) = one", 3, []string{"X -> one, Y -> one"}},
		{"sum(X,zero) = zero", 2, []string{"X -> zero"}},
		{"f(X,times(X,Y)) = f(one,Z)", 7, []string{"X -> one, Z -> Y", "X -> one, Y -> one, Z -> one"}},
		{"f(plus(Y,W),plus(a,W,b)) = f(plus(b,g(Y),Z),plus(Y,g(Z)))", 2, []string{"W -> plus(b,g(plus(a,b,b))), Y -> plus(a,b,b), Z -> plus(a,b,b)"}},
	} {
		if got := again(example(), equation(t, x.in)); got.forms != x.forms {
			t.Errorf("%s: %d forms", x.in, got.forms)
		}
		wantLines(t, x.in, x.want...)
	}
	for _, line := range []string{"f(plus(X,W),plus(g(X),a,W)) = f(plus(b,a,Y),plus(X,Z,Z))", "f(times(Y,one,X),sum(W,Y)) = f(times(Z,b,b),sum(Z,Y,V))"} {
		q := equation(t, line)
		l, e := unify.Unify(example(), q.L, q.R)
		if want := again(example(), q); e != api.OK || len(l) == 0 || len(l) >= want.forms {
			t.Errorf("%s: %d forms, %d answers, %d", line, want.forms, len(l), e)
		}
		wantUnlike(t, line, l)
	}
}

func wantUnlike(t *testing.T, what string, l [][]api.Bind) {
	t.Helper()
	for i, x := range l {
		for j, y := range l[:i] {
			if toldBinds(x) == toldBinds(y) {
				t.Errorf("%s: the answers %d and %d are the same: %s", what, j, i, toldBinds(x))
			}
		}
	}
}

// TestCanonicalByTheSignature: forms are made modulo associativity and commutativity alone; what they make of a variable loses its units all the same.
func TestCanonicalByTheSignature(t *testing.T) {
	wantLines(t, "f(X,Z) = f(one,times(X,Y))", "X -> one, Z -> Y", "X -> one, Y -> one, Z -> one")
	wantLines(t, "f(X,f(Y,Z)) = f(one,f(one,times(X,Y,a)))", "X -> one, Y -> one, Z -> a")
	wantLines(t, "f(X,f(Y,Z)) = f(g(times(Y,a)),f(one,plus(X,X)))", "X -> g(a), Y -> one, Z -> plus(g(a),g(a))")
}

// TestFreshNames: from 1 on in each answer, by their first places; the variables of the terms keep their names, and bound fresh variables are told nowhere.
func TestFreshNames(t *testing.T) {
	// W's is the first one, though X's was made first.
	wantLines(t, "f(plus(X,X),plus(Z,Z)) = f(plus(Y,Y,Y),plus(W,W,W))", "W -> plus(_1,_1), X -> plus(_2,_2,_2), Y -> plus(_2,_2), Z -> plus(_1,_1,_1)")
	wantLines(t, "f(plus(A,A),plus(C,C)) = f(plus(B,B,B),plus(D,D,D))", "A -> plus(_1,_1,_1), B -> plus(_1,_1), C -> plus(_2,_2,_2), D -> plus(_2,_2)")
	wantLines(t, "plus(X,f(Y,a)) = plus(f(b,Z),W)", "W -> f(Y,a), X -> f(b,Z)", "X -> W, Y -> b, Z -> a", "W -> plus(_1,f(Y,a)), X -> plus(_1,f(b,Z))")
	wantLines(t, "times(X,X) = times(Y,Y,Y)", "X -> times(_1,_1,_1), Y -> times(_1,_1)", "X -> one, Y -> one")
}

// TestFreshNamesOfTheCanonicalForm: the first places are those of the form by the signature; ahead of leaving out Y's unit, times(Y,f(P,P)) stands behind times(a,Q).
func TestFreshNamesOfTheCanonicalForm(t *testing.T) {
	wantLines(t, "f(Y,f(A,f(plus(P,P),plus(Q,Q)))) = f(one,f(plus(times(Y,f(P,P)),times(a,Q)),f(plus(R,R,R),plus(S,S,S))))",
		"A -> plus(f(plus(_1,_1,_1),plus(_1,_1,_1)),times(a,plus(_2,_2,_2))), P -> plus(_1,_1,_1), Q -> plus(_2,_2,_2), R -> plus(_1,_1), S -> plus(_2,_2), Y -> one")
}

// TestTenFreshNames: _10 stands ahead of _2, byte by byte, and behind it by its number.
func TestTenFreshNames(t *testing.T) {
	q := equation(t, "f(f(plus(A,B),plus(E,F)),f(plus(I,I),plus(K,K))) = f(f(plus(C,D),plus(G,H)),f(plus(J,J,J),plus(L,L,L)))")
	l, e := unify.Unify(example(), q.L, q.R)
	if e != api.OK || len(l) != 49 {
		t.Fatalf("%d answers, %d", len(l), e)
	}
	wantNamedInOrder(t, example(), q, l)
	want := binds(t, "A -> plus(_1,_2), B -> plus(_3,_4), C -> plus(_2,_4), D -> plus(_1,_3), E -> plus(_5,_6), F -> plus(_7,_8), G -> plus(_6,_8), H -> plus(_5,_7), I -> plus(_9,_9,_9), J -> plus(_9,_9), K -> plus(_10,_10,_10), L -> plus(_10,_10)")
	if toldBinds(l[48]) != toldBinds(want) {
		t.Errorf("%s; want %s", toldBinds(l[48]), toldBinds(want))
	}
}

// wantNamedInOrder: an answer's other variables than the terms' are _1, _2 and so on: all numbers up to the last one, each answer for itself.
func wantNamedInOrder(t *testing.T, s api.Signature, q api.Equation, l [][]api.Bind) {
	t.Helper()
	vars := varsOf(q)
	for _, x := range l {
		seen := map[string]int{}
		for _, y := range x {
			if !slices.Contains(vars, y.Var) {
				t.Errorf("%s: %s binds %s", told(q), toldBinds(x), y.Var)
			}
			for _, name := range terms.Vars(y.T) {
				if !slices.Contains(vars, name) {
					seen[name]++
				}
			}
		}
		for i := range len(seen) {
			if seen["_"+strconv.Itoa(i+1)] == 0 {
				t.Errorf("%s: %s has %d fresh names, and not %d", told(q), toldBinds(x), len(seen), i+1)
			}
		}
	}
}

func wrongSignatures() []struct {
	s    api.Signature
	want api.Errno
} {
	change := func(at int, x api.Symbol) api.Signature {
		s := slices.Clone(example())
		s[at] = x
		return s
	}
	return []struct {
		s    api.Signature
		want api.Errno
	}{
		{slices.Repeat(example(), 2), 15},
		{change(0, api.Symbol{Name: "A", Kind: api.Free}), 11},
		{change(5, api.Symbol{Name: "a", Kind: api.Free}), 11},
		{change(0, api.Symbol{Name: "a"}), 12},
		{change(0, api.Symbol{Name: "a", Kind: 4}), 12},
		{change(2, api.Symbol{Name: "f", Kind: api.Free, Arity: 5}), 13},
		{change(3, api.Symbol{Name: "plus", Kind: api.AC}), 13},
		{change(4, api.Symbol{Name: "times", Kind: api.ACU, Arity: 2}), 14},
		{change(4, api.Symbol{Name: "times", Kind: api.ACU, Arity: 2, Unit: "zero"}), 14},
		{change(3, api.Symbol{Name: "plus", Kind: api.AC, Arity: 2, Unit: "a"}), 14},
	}
}

// wrongTerms are terms that are not right by the example, each with its error.
func wrongTerms() []struct {
	t    api.Term
	want api.Errno
} {
	return []struct {
		t    api.Term
		want api.Errno
	}{
		{v("x"), 31},
		{v("_01"), 31},
		{v("_"), 31},
		{api.Term{Var: "X", Sym: 1}, 31},
		{api.Term{Var: "X", Args: []api.Term{sy(a)}}, 31},
		{sy(g, v("Abcdefghijklm")), 31},
		{sy(-1), 32},
		{sy(10), 32},
		{sy(f, sy(a), sy(99)), 32},
		{sy(f, v("X")), 33},
		{sy(a, v("X")), 33},
		{sy(plus, v("X")), 33},
		{sy(times), 33},
		{tower(41, v("X")), 34},
		{sy(plus, many(40, sy(a))...), 34},
	}
}

// Each error, and which of several comes first: the signature's, the left side's, the right side's, the name's.
func TestErrors(t *testing.T) {
	right, fresh := sy(plus, v("X"), sy(a)), sy(plus, v("_1"), sy(a))
	for _, x := range wrongSignatures() {
		for _, q := range []api.Equation{eq(right, right), eq(sy(99), right), eq(right, v("x")), eq(fresh, right), {}} {
			wantUnify(t, x.s, q, nil, x.want)
		}
	}
	for _, x := range wrongTerms() {
		wantUnify(t, example(), eq(x.t, right), nil, x.want)
		wantUnify(t, example(), eq(right, x.t), nil, x.want)
		wantUnify(t, example(), eq(x.t, fresh), nil, x.want)
		wantUnify(t, example(), eq(fresh, x.t), nil, x.want)
		for _, y := range wrongTerms() {
			wantUnify(t, example(), eq(x.t, y.t), nil, x.want)
		}
	}
}

func TestNoSymbols(t *testing.T) {
	wantUnify(t, nil, eq(v("X"), v("Y")), lists(t, "Y -> X"), api.OK)
	wantUnify(t, api.Signature{}, eq(v("X"), v("X")), lists(t, ""), api.OK)
	wantUnify(t, nil, eq(v("X"), sy(0)), nil, 32)
	wantUnify(t, nil, api.Equation{}, nil, 32)
	wantUnify(t, nil, eq(v("_1"), v("X")), nil, 181)
}

func TestNamesThatBeginWithAnUnderscore(t *testing.T) {
	for _, line := range []string{"_1 = a", "a = _1", "_1 = _1", "X = _99999999999", "f(X,g(_2)) = f(X,a)", "f(X,a) = f(X,plus(a,_7,b))", "times(X,_1) = times(X,_1)", "a = g(_1)", "plus(_1,a) = b"} {
		wantError(t, line, api.ErrUnifyName)
	}
	if api.ErrUnifyName != 181 {
		t.Errorf("%d", api.ErrUnifyName)
	}
}

// TestGreatTerms: as great as may be, on both sides.
func TestGreatTerms(t *testing.T) {
	wantUnify(t, example(), eq(tower(40, v("X")), tower(40, sy(a))), lists(t, "X -> a"), api.OK)
	wantUnify(t, example(), eq(v("X"), tower(40, v("Y"))), [][]api.Bind{{bind("X", tower(40, v("Y")))}}, api.OK)
	wantUnify(t, example(), eq(sy(plus, many(39, v("X"))...), sy(plus, many(39, v("X"))...)), lists(t, ""), api.OK)
	wantUnify(t, example(), eq(sy(times, append(many(38, sy(one)), v("X"))...), sy(a)), lists(t, "X -> a"), api.OK)
	wantUnify(t, example(), eq(sy(plus, append(many(38, sy(a)), v("X"))...), sy(plus, append(many(38, sy(a)), sy(b))...)), lists(t, "X -> b"), api.OK)
}

// TestByTheWords holds Unify against the chapter's words said again.
func TestByTheWords(t *testing.T) {
	for i, s := range signatures() {
		m := newMaker(int64(700 + i))
		found, several, fresh, tooMany := 0, 0, 0, 0
		for j := range 1200 {
			q := m.equation(s, 3+j%12, 2+j%3)
			if terms.Check(s, q.L) != api.OK || terms.Check(s, q.R) != api.OK {
				continue
			}
			want := again(s, q)
			wantUnify(t, s, q, want.list, want.e)
			wantNamedInOrder(t, s, q, want.list)
			found += len(want.list)
			if want.giving > 1 {
				several++
			}
			if want.e == api.ErrTooMany {
				tooMany++
			}
			for _, x := range want.list {
				if slices.ContainsFunc(x, func(b api.Bind) bool { return terms.Has(b.T, "_1") }) {
					fresh++
				}
			}
			if t.Failed() {
				return
			}
		}
		if found < 300 || fresh < 20 || i < 3 && several < 50 || tooMany < 1 {
			t.Errorf("signature %d: %d answers, %d with fresh names, %d of several ways, %d too many", i, found, fresh, several, tooMany)
		}
	}
}

// TestByTheWordsOfAnything: errors among them.
func TestByTheWordsOfAnything(t *testing.T) {
	seen := map[api.Errno]int{}
	for i, s := range signatures() {
		m := newMaker(int64(710 + i))
		for range 1000 {
			q := eq(m.spoilt(s, 1+m.Intn(8)), m.spoilt(s, 1+m.Intn(8)))
			want := tally{}
			if want.e = terms.Check(s, q.L); want.e == api.OK {
				want.e = terms.Check(s, q.R)
			}
			if want.e == api.OK {
				want = again(s, q)
			}
			wantUnify(t, s, q, want.list, want.e)
			seen[want.e]++
			if t.Failed() {
				return
			}
		}
	}
	for _, e := range []api.Errno{api.OK, api.ErrTermsVar, api.ErrTermsSymbol, api.ErrTermsArgs, api.ErrUnifyName} {
		if seen[e] < 20 {
			t.Errorf("error %d was met %d times", e, seen[e])
		}
	}
}

// TestEqualTermsAlike (T3): sides that are written otherwise have the same answers.
func TestEqualTermsAlike(t *testing.T) {
	for i, s := range signatures() {
		m := newMaker(int64(720 + i))
		for j := range 300 {
			q := m.equation(s, 3+j%9, 3)
			l, e := unify.Unify(s, q.L, q.R)
			if e == api.ErrTermsLong {
				continue
			}
			other := eq(m.turned(s, q.L), m.turned(s, q.R))
			if !canon.Equal(s, other.L, q.L) || !canon.Equal(s, other.R, q.R) {
				t.Fatalf("%s and %s are not equal", told(q), told(other))
			}
			wantUnify(t, s, other, l, e)
			if t.Failed() {
				return
			}
		}
	}
}

// turned has the same symbols, but that arguments of AC and ACU symbols have changed places.
func (m maker) turned(s api.Signature, t api.Term) api.Term {
	var args []api.Term
	for _, x := range t.Args {
		args = append(args, m.turned(s, x))
	}
	if t.Var == "" && s[t.Sym].Kind != api.Free {
		m.Shuffle(len(args), func(i, j int) { args[i], args[j] = args[j], args[i] })
	}
	t.Args = args
	return t
}

// TestReadBack (T8): what an answer is written as is read back.
func TestReadBack(t *testing.T) {
	read := 0
	for i, s := range signatures() {
		m := newMaker(int64(730 + i))
		for range 300 {
			q := m.equation(s, 9, 3)
			l, _ := unify.Unify(s, q.L, q.R)
			for _, x := range l {
				line := text.ShowBinds(s, x)
				got, e, at := text.Binds(s, line)
				if len(line) <= 800 && (e != api.OK || toldBinds(got) != toldBinds(x)) {
					t.Fatalf("%s: %d at %d, %s", line, e, at, toldBinds(got))
				}
				read++
			}
		}
	}
	if read < 500 {
		t.Errorf("only %d", read)
	}
}

// TestPlainSignature: where no symbol has a unit, a term of the unit's name is a constant.
func TestPlainSignature(t *testing.T) {
	p := sig.Plain(example())
	wantUnify(t, p, equation(t, "times(X,a) = a"), nil, api.OK)
	wantUnify(t, p, equation(t, "times(X,one) = X"), nil, api.OK)
	wantUnify(t, p, equation(t, "times(X,a) = times(Y,one)"), lists(t, "X -> one, Y -> a", "X -> times(_1,one), Y -> times(_1,a)"), api.OK)
}
