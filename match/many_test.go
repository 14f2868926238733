package match_test

import (
	"slices"
	"testing"

	"amalgam/api"
	"amalgam/terms"
)

// The chapter's examples, and the document's ninth.
func TestExamples(t *testing.T) {
	wantLines(t, "plus(X,Y) = plus(a,a,one)", "X -> a, Y -> plus(a,one)", "X -> one, Y -> plus(a,a)", "X -> plus(a,a), Y -> one", "X -> plus(a,one), Y -> a")
	wantLines(t, "plus(X,X) = plus(a,a,one)")
	wantLines(t, "times(X,Y) = a", "X -> a, Y -> one", "X -> one, Y -> a")
	wantLines(t, "f(X,plus(X,Y)) = f(a,plus(a,one))", "X -> a, Y -> one")
	wantLines(t, "plus(X,Z) = plus(a,Z)", "X -> a")
	wantLines(t, "X = X", "")
	wantLines(t, "f(X,a) = f(Y,a)", "X -> Y")
}

// TestNoPairs: nothing is to be matched, so what binds nothing matches.
func TestNoPairs(t *testing.T) {
	for _, s := range append(signatures(), nil) {
		wantMany(t, s, problem{}, [][]api.Bind{nil}, api.OK)
		wantMany(t, s, problem{[]api.Term{}, nil}, [][]api.Bind{nil}, api.OK)
		wantFirst(t, s, problem{}, nil, true, api.OK)
	}
}

// Several pairs are matched at one time.
func TestPairs(t *testing.T) {
	wantLines(t, "plus(X,Y) = plus(a,a,one); X = one", "X -> one, Y -> plus(a,a)")
	wantLines(t, "X = one; plus(X,Y) = plus(a,a,one)", "X -> one, Y -> plus(a,a)")
	wantLines(t, "X = a; X = one")
	wantLines(t, "X = a; X = a", "X -> a")
	wantLines(t, "X = a; Y = b; Z = X") // X stands in a subject, and a is not X
	wantLines(t, "X = X; Y = b; Z = X", "Y -> b, Z -> X")
}

// TestConstantsOfAnyPair: a variable that stands in one pair's subject is a constant of all of them.
func TestConstantsOfAnyPair(t *testing.T) {
	wantLines(t, "X = a; b = b; g(Y) = g(X)")
	wantLines(t, "X = X; g(Y) = g(X)", "Y -> X")
	wantLines(t, "g(Y) = g(a); X = Y")
	wantLines(t, "plus(X,Y) = plus(Y,a); Z = b", "X -> a, Z -> b")
}

// wrongSignatures have each error of sig's Check.
func wrongSignatures() []struct {
	s    api.Signature
	want api.Errno
} {
	set := func(at int, x api.Symbol) api.Signature {
		s := example()
		s[at] = x
		return s
	}
	return []struct {
		s    api.Signature
		want api.Errno
	}{
		{set(2, api.Symbol{Name: "F", Kind: api.Free, Arity: 2}), api.ErrSigName},
		{set(5, api.Symbol{Name: "a", Kind: api.Free}), api.ErrSigName},
		{set(0, api.Symbol{Name: "a", Kind: 4}), api.ErrSigKind},
		{set(2, api.Symbol{Name: "f", Kind: api.Free, Arity: 5}), api.ErrSigArity},
		{set(3, api.Symbol{Name: "plus", Kind: api.AC, Arity: 3}), api.ErrSigArity},
		{set(4, api.Symbol{Name: "times", Kind: api.ACU, Arity: 2, Unit: "two"}), api.ErrSigUnit},
		{append(example(), make(api.Signature, 7)...), api.ErrSigMany},
	}
}

// wrongTerms have each error of a node, at the top and far below, and of a term's size.
func wrongTerms() []struct {
	t    api.Term
	want api.Errno
} {
	deep := func(t api.Term) api.Term { return sy(f, sy(a), sy(plus, sy(a), tower(100, t), sy(99))) }
	return []struct {
		t    api.Term
		want api.Errno
	}{
		{v("x"), api.ErrTermsVar},
		{v("_0"), api.ErrTermsVar},
		{v("Abcdefghijklm"), api.ErrTermsVar},
		{api.Term{Var: "X", Sym: 1}, api.ErrTermsVar},
		{api.Term{Var: "X", Args: []api.Term{sy(a)}}, api.ErrTermsVar},
		{api.Term{Var: "X", Args: many(9, sy(99))}, api.ErrTermsVar},
		{sy(-1), api.ErrTermsSymbol},
		{sy(10), api.ErrTermsSymbol},
		{sy(10, v("x")), api.ErrTermsSymbol},
		{sy(a, sy(a)), api.ErrTermsArgs},
		{sy(f), api.ErrTermsArgs},
		{sy(f, v("x")), api.ErrTermsArgs},
		{sy(f, many(3, v("x"))...), api.ErrTermsArgs},
		{sy(f, many(6, sy(a))...), api.ErrTermsArgs},
		{sy(g, many(5, sy(a))...), api.ErrTermsArgs},
		{sy(plus), api.ErrTermsArgs},
		{sy(plus, sy(a)), api.ErrTermsArgs},
		{sy(times, sy(99)), api.ErrTermsArgs},
		{sy(f, v("x"), sy(99)), api.ErrTermsVar},
		{sy(f, sy(99), v("x")), api.ErrTermsSymbol},
		{sy(f, sy(g, sy(f)), v("x")), api.ErrTermsArgs},
		{deep(v("x")), api.ErrTermsVar},
		{deep(sy(10)), api.ErrTermsSymbol},
		{deep(sy(times, v("X"))), api.ErrTermsArgs},
		{deep(v("X")), api.ErrTermsSymbol},
		{tower(401, sy(a)), api.ErrTermsLong},
		{tower(401, v("x")), api.ErrTermsLong},
		{sy(plus, many(400, v("X"))...), api.ErrTermsLong},
		{sy(99, many(400, v("x"))...), api.ErrTermsLong},
		{api.Term{Var: "X", Args: many(400, sy(a))}, api.ErrTermsLong},
	}
}

// Each error in its order: the signature's, that of the lists, then pair by pair, the pattern's ahead of the subject's.
func TestErrors(t *testing.T) {
	x, right := v("X"), sy(plus, v("X"), sy(a))
	for _, w := range wrongSignatures() {
		for _, y := range []problem{{}, of(x, sy(a)), {[]api.Term{x}, nil}, {nil, []api.Term{x}}, {make([]api.Term, 81), make([]api.Term, 81)}, of(v("x"), sy(a)), of(tower(401, x), sy(a))} {
			wantError(t, w.s, y, w.want)
		}
	}
	for _, w := range wrongTerms() {
		wantError(t, example(), of(w.t, right), w.want)
		wantError(t, example(), of(right, w.t), w.want)
		wantError(t, example(), of(right, right, right, w.t, v("x"), sy(99)), w.want)
		wantError(t, example(), of(right, right, w.t, right, v("x"), sy(99)), w.want)
		wantError(t, example(), problem{[]api.Term{w.t}, nil}, api.ErrMatchPairs)
		wantError(t, example(), problem{[]api.Term{w.t}, []api.Term{right, w.t}}, api.ErrMatchPairs)
		wantError(t, example(), problem{many(81, w.t), many(81, w.t)}, api.ErrMatchPairs)
		for _, y := range wrongTerms() {
			wantError(t, example(), of(w.t, y.t), w.want)
			wantError(t, example(), of(x, w.t, y.t, sy(a)), w.want)
		}
	}
}

// TestErrorsAheadOfTheWalk: what comes in is looked at, all of it, ahead of the limits.
func TestErrorsAheadOfTheWalk(t *testing.T) {
	tooMany := read(t, "times(A,B,C,D,E,F,G,H,I,J,K,L,M) = a")
	wantError(t, example(), tooMany, api.ErrTooMany)
	wantError(t, example(), tooMany.and(of(v("X"), v("x"))), api.ErrTermsVar)
	tooMany = read(t, "plus(A,B,C,D,E,F) = plus(a,b)")
	wantError(t, example(), tooMany, api.ErrTooMany)
	wantError(t, example(), tooMany.and(of(sy(a), tower(401, sy(a)))), api.ErrTermsLong)
}

func TestUnlikeLengths(t *testing.T) {
	l := many(81, sy(a))
	for _, n := range []struct{ p, t int }{{1, 0}, {0, 1}, {2, 1}, {1, 2}, {80, 79}, {79, 80}, {81, 80}, {80, 81}, {81, 81}, {81, 0}} {
		wantError(t, example(), problem{l[:n.p], l[:n.t]}, api.ErrMatchPairs)
	}
	for _, n := range []int{0, 1, 2, 79, 80} {
		wantMany(t, example(), problem{l[:n], l[:n]}, [][]api.Bind{nil}, api.OK)
		wantFirst(t, example(), problem{l[:n], l[:n]}, nil, true, api.OK)
	}
	var x problem
	for i := range 80 {
		x = x.and(of(sy(plus, v("X"), sy(a)), sy(plus, sy(b), sy(a))))
		if i == 40 {
			x = x.and(of(v("Y"), sy(one)))
		}
	}
	x = problem{x.p[:80], x.t[:80]}
	wantMany(t, example(), x, lists(t, "X -> b, Y -> one"), api.OK)
	x.t[79] = sy(plus, sy(a), sy(a))
	wantMany(t, example(), x, nil, api.OK)
}

// TestLength: 400 nodes may be, as the terms are written.
func TestLength(t *testing.T) {
	for _, n := range []int{40, 41, 399, 400, 401} {
		p, q := tower(n, v("X")), tower(n, sy(b))
		units := sy(times, append(many(n-2, sy(one)), v("X"))...) // it is X
		if terms.Size(p) != n || terms.Size(units) != n {
			t.Fatalf("%d and %d nodes", terms.Size(p), terms.Size(units))
		}
		if n > 400 {
			wantError(t, example(), of(p, q), api.ErrTermsLong)
			wantError(t, example(), of(p, sy(b)), api.ErrTermsLong)
			wantError(t, example(), of(v("X"), q), api.ErrTermsLong)
			wantError(t, example(), of(units, sy(b)), api.ErrTermsLong)
			wantError(t, example(), of(v("Y"), units), api.ErrTermsLong)
			continue
		}
		wantMany(t, example(), of(p, q), lists(t, "X -> b"), api.OK)
		wantMany(t, example(), of(v("X"), q), [][]api.Bind{{bind("X", q)}}, api.OK)
		wantMany(t, example(), of(units, sy(b)), lists(t, "X -> b"), api.OK)
		wantMany(t, example(), of(v("Y"), units), lists(t, "Y -> X"), api.OK)
	}
}

// Matchers stand by the first of the Vars that they bind to unlike terms, and not as the walk finds them.
func TestOrder(t *testing.T) {
	wantLines(t, "plus(Y,X) = plus(a,b,C)", "X -> C, Y -> plus(a,b)", "X -> a, Y -> plus(C,b)", "X -> plus(C,a), Y -> b", "X -> plus(C,b), Y -> a", "X -> plus(a,b), Y -> C", "X -> b, Y -> plus(C,a)")
	wantLines(t, "plus(g(Y),f(X,Z)) = plus(g(a),f(b,b)); plus(g(W),g(V)) = plus(g(b),g(C))", "V -> C, W -> b, X -> b, Y -> a, Z -> b", "V -> b, W -> C, X -> b, Y -> a, Z -> b")
	// A variable that a way makes a unit stands where its name says.
	wantLines(t, "times(X,Y,Z) = b", "X -> one, Y -> one, Z -> b", "X -> one, Y -> b, Z -> one", "X -> b, Y -> one, Z -> one")
	for i, s := range signatures() {
		m := newMaker(int64(900 + i))
		met := 0
		for range 400 {
			x := m.problem(s, 1+m.Intn(2), 9, 3)
			y := wantAgain(t, s, x)
			for j := 1; j < len(y.list); j++ {
				if !isAhead(y.list[j-1], y.list[j]) {
					t.Fatalf("%v: %s", x, toldLists(y.list))
				}
				met++
			}
		}
		if met < 60 {
			t.Errorf("signature %d: only %d behind others", i, met)
		}
	}
}

// isAhead: does one matcher come ahead of another one, and do they bind the same?
func isAhead(k, l []api.Bind) bool {
	at := slices.IndexFunc(k, func(x api.Bind) bool {
		return !slices.ContainsFunc(l, func(y api.Bind) bool { return x.Var == y.Var && terms.Same(x.T, y.T) })
	})
	return len(k) == len(l) && at >= 0 && k[at].Var == l[at].Var && terms.Compare(k[at].T, l[at].T) < 0
}
