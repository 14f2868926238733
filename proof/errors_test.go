package proof_test

import (
	"slices"
	"testing"

	"amalgam/api"
)

type wrongSignature struct {
	s    api.Signature
	want api.Errno
}

// wrongSignatures have each error of sig's Check.
func wrongSignatures() []wrongSignature {
	set := func(at int, x api.Symbol) api.Signature {
		s := example()
		s[at] = x
		return s
	}
	return []wrongSignature{
		{slices.Repeat(example(), 2), 15},
		{set(0, api.Symbol{Name: "A", Kind: api.Free}), 11},
		{set(5, api.Symbol{Name: "a", Kind: api.Free}), 11},
		{set(0, api.Symbol{Name: "a"}), 12},
		{set(0, api.Symbol{Name: "a", Kind: 4}), 12},
		{set(2, api.Symbol{Name: "f", Kind: api.Free, Arity: 5}), 13},
		{set(3, api.Symbol{Name: "plus", Kind: api.AC}), 13},
		{set(4, api.Symbol{Name: "times", Kind: api.ACU, Arity: 2, Unit: "zero"}), 14},
		{set(9, api.Symbol{Name: "both", Kind: api.AC, Arity: 2, Unit: "one"}), 14},
		{api.Signature{{}}, 11},
	}
}

type wrongTerm struct {
	t    api.Term
	want api.Errno
}

// wrongTerms are terms that are not right by the example, each with its error.
func wrongTerms() []wrongTerm {
	return []wrongTerm{
		{v("x"), 31},
		{v("_01"), 31},
		{api.Term{Var: "X", Sym: 1}, 31},
		{api.Term{Var: "X", Args: []api.Term{sy(a)}}, 31},
		{sy(g, v("Abcdefghijklm")), 31},
		{sy(-1), 32},
		{sy(10), 32},
		{sy(f, sy(a), sy(99)), 32},
		{sy(f, v("X")), 33},
		{sy(a, v("X")), 33},
		{sy(plus, v("X")), 33},
		{sy(times), 33},
		{tower(41, v("X")), 34},
		{sy(plus, many(40, sy(a))...), 34},
	}
}

type wrongBind struct {
	b    api.Bind
	want api.Errno
}

// wrongBinds may not be, wherever they stand ahead of Z, each with subst's Check's error.
func wrongBinds() []wrongBind {
	return []wrongBind{
		{bind("x", sy(a)), 71},
		{bind("", sy(a)), 71},
		{bind("Y", v("Y")), 71},
		{bind("Y_", sy(a)), 71},
		{bind("Y", tower(401, sy(a))), 73},
		{bind("Y", sy(plus, many(400, sy(a))...)), 73},
		{bind("Y", sy(plus, sy(b), sy(a))), 72},
		{bind("Y", sy(plus, sy(a), sy(plus, sy(a), sy(a)))), 72},
		{bind("Y", sy(times, sy(one), sy(a))), 72},
		{bind("Y", sy(f, sy(a))), 72},
		{bind("Y", sy(99)), 72},
		{bind("Y", v("x")), 72},
		{bind("Y", api.Term{Var: "X", Sym: 1}), 72},
	}
}

// wrongSteps can't be done, wherever a term of plus and f with one sum at the top stands.
func wrongSteps() []api.Step {
	return []api.Step{
		{}, {Kind: 6}, {Kind: -1}, {Kind: 1 << 40},
		swap(-1), swap(1), swap(2), swap(1<<63 - 1), swap(-1 << 63), swap(0, 7), swap(0, -1), swap(0, 0, 0, 0, 0),
		flat(0), flat(-1), flat(5), group(0, 2), group(0, 1), group(0, 0), group(1, 1<<63-1), group(0, -1<<63),
		drop(0), drop(1), drop(-1), grow(plus, 1, 0), grow(a, 1, 0), grow(-1, 1, 0), grow(99, 1, 0),
		grow(times, 0, 0), grow(times, 2, 0), grow(times, -1, 0), grow(times, 1, 2), grow(times, 1, -1), grow(times, 1, 0, 9),
	}
}

// Sig's Check's error comes ahead of all others: of terms, of binds, of what grows, of steps.
func TestErrorsOfSignatures(t *testing.T) {
	right := equation(t, "plus(X,a) = plus(a,X)")
	great := eq(sy(plus, many(20, v("X"))...), sy(a))
	for _, w := range wrongSignatures() {
		for _, q := range []api.Equation{right, great, eq(sy(99), right.R), eq(right.L, v("x")), eq(v("x"), sy(99)), eq(v("_1"), sy(a)), {}} {
			for _, l := range [][]api.Bind{nil, {bind("x", sy(a))}, {bind("X", tower(30, sy(a)))}, {bind("X", tower(401, sy(a)))}} {
				wantMake(t, w.s, q, l, w.want)
				wantCheck(t, w.s, q, api.Proof{Binds: l}, w.want, 0)
				wantCheck(t, w.s, q, api.Proof{Binds: l, Steps: []api.Step{swap(0), swap(9)}}, w.want, 0)
			}
			wantAll(t, w.s, q, nil, w.want)
		}
	}
	wantCheck(t, make(api.Signature, 1000000), right, api.Proof{}, 15, 0)
}

// Terms' Check's error of l comes ahead of that of r, and both ahead of all that is wrong with a proof.
func TestErrorsOfTerms(t *testing.T) {
	right, fresh, great := sy(plus, v("X"), sy(a)), sy(plus, v("_1"), sy(a)), sy(plus, many(20, v("X"))...)
	var all []api.Proof
	for _, l := range [][]api.Bind{nil, {bind("x", sy(a))}, {bind("X", tower(30, sy(a)))}, {bind("X", tower(401, sy(a)))}, {bind("X", sy(99))}} {
		all = append(all, api.Proof{Binds: l}, api.Proof{Binds: l, Steps: wrongSteps()}, api.Proof{Binds: l, Steps: []api.Step{swap(0)}})
	}
	want := func(q api.Equation, e api.Errno) {
		t.Helper()
		for _, p := range all {
			wantCheck(t, example(), q, p, e, 0)
			wantMake(t, example(), q, p.Binds, e)
		}
		wantAll(t, example(), q, nil, e)
	}
	for _, w := range wrongTerms() {
		for _, other := range []api.Term{right, fresh, great} {
			want(eq(w.t, other), w.want)
			want(eq(other, w.t), w.want)
		}
		for _, y := range wrongTerms() {
			want(eq(w.t, y.t), w.want)
		}
	}
}

// ErrProofBinds and the place of the first bind that may not be: at the first, the last, more than one place. Make says the error itself.
func TestErrorsOfBinds(t *testing.T) {
	s := example()
	q, great := equation(t, "plus(Z,a) = plus(a,Z)"), eq(sy(plus, many(20, v("Z"))...), v("Z"))
	steps := []api.Step{swap(0)}
	for _, w := range wrongBinds() {
		before := binds(t, "A -> a, B -> X, X -> f(B,X), Xy -> plus(X,Y,b)")
		for at := range len(before) + 1 {
			l := append(slices.Clone(before[:at]), w.b)
			last := api.Proof{Binds: l, Steps: steps}
			first := api.Proof{Binds: append(slices.Clone(l), bind("Z", tower(30, sy(a)))), Steps: steps}
			for _, p := range []api.Proof{last, first, {Binds: first.Binds, Steps: wrongSteps()}, {Binds: first.Binds}} {
				wantCheck(t, s, q, p, api.ErrProofBinds, at)
				wantCheck(t, s, great, p, api.ErrProofBinds, at)
				wantCheck(t, s, eq(sy(a), sy(b)), p, api.ErrProofBinds, at)
				wantMake(t, s, q, p.Binds, w.want)
				wantMake(t, s, great, p.Binds, w.want)
				wantMake(t, s, eq(sy(a), sy(b)), p.Binds, w.want)
			}
			for _, y := range wrongBinds() {
				wantCheck(t, s, q, api.Proof{Binds: append(slices.Clone(l), y.b), Steps: steps}, api.ErrProofBinds, at)
				wantMake(t, s, q, append(slices.Clone(l), y.b), w.want)
			}
		}
	}
	// A bind whose variable is not above that of the one ahead.
	for _, x := range []struct {
		line string
		at   int
	}{{"X -> a, X -> a", 1}, {"Y -> a, X -> a", 1}, {"A -> a, B -> b, C -> a, B -> b", 3}, {"_9 -> a, _10 -> a", 1}, {"_1 -> a, X -> a, Y -> a", 1}, {"X -> X", 0}, {"X -> Y, Y -> Y", 1}} {
		wantCheck(t, s, q, api.Proof{Binds: binds(t, x.line), Steps: steps}, api.ErrProofBinds, x.at)
		wantMake(t, s, q, binds(t, x.line), api.ErrSubstVar)
	}
	// Right ones, even if no side has their variables; and one that is bound to just 400 nodes.
	wantCheck(t, s, q, api.Proof{Binds: binds(t, "A -> a, X -> Y, Y -> X, _1 -> plus(X,a), _10 -> times(X,a), _2 -> _1"), Steps: steps}, api.OK, 0)
	wantCheck(t, s, q, api.Proof{Binds: []api.Bind{bind("Y", tower(400, sy(a)))}, Steps: steps}, api.OK, 0)
}

// ErrSubstGrown: l, r, or both have more than 400 nodes with what is put in, as it is written; just 400 may be.
func TestErrorsOfWhatGrows(t *testing.T) {
	s := example()
	few, more := sy(plus, many(19, v("X"))...), sy(plus, append(many(19, v("X")), sy(a))...)
	put := []api.Bind{bind("X", tower(21, sy(a)))} // 400 nodes, and 401
	for _, steps := range [][]api.Step{nil, {swap(0)}, wrongSteps()} {
		for _, q := range []api.Equation{eq(more, sy(a)), eq(sy(a), more), eq(more, more), eq(few, more), eq(more, few), eq(more, v("X")), eq(v("X"), more)} {
			wantCheck(t, s, q, api.Proof{Binds: put, Steps: steps}, api.ErrSubstGrown, 0)
			wantMake(t, s, q, put, api.ErrSubstGrown)
		}
	}
	wantCheck(t, s, eq(few, few), api.Proof{Binds: put}, api.OK, 0)
	wantCheck(t, s, eq(few, few), api.Proof{Binds: put, Steps: []api.Step{swap(3)}}, api.OK, 0)
	wantCheck(t, s, eq(few, sy(a)), api.Proof{Binds: put, Steps: []api.Step{swap(3), swap(30)}}, api.ErrProofStep, 1)
	wantCheck(t, s, eq(few, sy(a)), api.Proof{Binds: put}, api.ErrProofEnd, 0)
	wantCheck(t, s, eq(sy(a), few), api.Proof{Binds: put}, api.ErrProofEnd, 0)
	wantMake(t, s, eq(few, few), put, api.OK)
	wantMake(t, s, eq(few, sy(a)), put, api.ErrProofEnd)
	wantMake(t, s, eq(sy(a), few), put, api.ErrProofEnd)
	// One term beneath another.
	tall := []api.Bind{bind("X", tower(399, sy(a))), bind("Y", tower(400, sy(a)))}
	wantMake(t, s, eq(sy(g, v("X")), v("Y")), tall, api.OK)
	wantCheck(t, s, eq(sy(g, v("X")), v("Y")), api.Proof{Binds: tall}, api.OK, 0)
	wantMake(t, s, eq(v("Y"), sy(g, v("Y"))), tall, api.ErrSubstGrown)
	wantCheck(t, s, eq(v("X"), sy(g, v("Y"))), api.Proof{Binds: tall}, api.ErrSubstGrown, 0)
}

// What is left out once it is canonical counts all the same: units, and sums within sums.
func TestGrownAsItIsWritten(t *testing.T) {
	s := example()
	put := []api.Bind{bind("X", sy(one)), bind("Y", sy(times, many(21, sy(a))...))} // of 1 and 22 nodes
	just := sy(times, append(many(18, v("Y")), many(3, v("X"))...)...)              // 1 + 18 * 22 + 3
	more := sy(times, append(many(18, v("Y")), many(4, v("X"))...)...)
	wantMake(t, s, eq(just, sy(times, many(18, v("Y"))...)), put, api.OK)
	wantMake(t, s, eq(sy(times, many(18, v("Y"))...), just), put, api.OK)
	wantMake(t, s, eq(more, just), put, api.ErrSubstGrown)
	wantMake(t, s, eq(just, more), put, api.ErrSubstGrown)
	wantCheck(t, s, eq(just, just), api.Proof{Binds: put}, api.OK, 0)
	wantCheck(t, s, eq(more, just), api.Proof{Binds: put, Steps: []api.Step{drop(21)}}, api.ErrSubstGrown, 0)
	wantCheck(t, s, eq(just, more), api.Proof{Binds: put, Steps: []api.Step{grow(times, 0, 21)}}, api.ErrSubstGrown, 0)
	wantCheck(t, s, eq(just, sy(times, append(many(18, v("Y")), many(2, v("X"))...)...)), api.Proof{Binds: put, Steps: []api.Step{drop(20)}}, api.OK, 0)
}

// ErrProofStep and the number of the first step that can't be done: the first, the last, more than one; it comes ahead of where the steps lead to.
func TestErrorsOfSteps(t *testing.T) {
	s := example()
	q, put := equation(t, "plus(X,a) = plus(a,X)"), binds(t, "X -> f(Y,b)")
	elsewhere := eq(q.L, sy(b))
	for _, x := range wrongSteps() {
		for at := range 4 {
			for behind := range 3 {
				steps := slices.Concat(slices.Repeat([]api.Step{swap(0)}, at), []api.Step{x}, slices.Repeat([]api.Step{swap(0)}, behind))
				for _, p := range []api.Proof{{Binds: put, Steps: steps}, {Binds: put, Steps: append(steps, wrongSteps()...)}} {
					wantCheck(t, s, q, p, api.ErrProofStep, at)
					wantCheck(t, s, elsewhere, p, api.ErrProofStep, at)
				}
			}
		}
	}
	// Whether a step can be done hangs on those ahead of it, and on what is put in.
	wantCheck(t, s, equation(t, "plus(X,plus(X,a)) = plus(X,X,a)"), api.Proof{Steps: []api.Step{flat(1)}}, api.OK, 0)
	wantCheck(t, s, equation(t, "plus(X,plus(X,a)) = plus(X,X,a)"), api.Proof{Steps: []api.Step{swap(0), flat(1)}}, api.ErrProofStep, 1)
	wantCheck(t, s, equation(t, "plus(X,plus(X,a)) = plus(X,a,X)"), api.Proof{Steps: []api.Step{swap(0), flat(0)}}, api.OK, 0)
	wantCheck(t, s, equation(t, "times(X,a) = a"), api.Proof{Steps: []api.Step{drop(0)}}, api.ErrProofStep, 0)
	wantCheck(t, s, equation(t, "times(X,a) = a"), api.Proof{Binds: binds(t, "X -> one"), Steps: []api.Step{drop(0)}}, api.OK, 0)
	wantCheck(t, s, equation(t, "times(X,a) = a"), api.Proof{Binds: binds(t, "X -> zero"), Steps: []api.Step{drop(0)}}, api.ErrProofStep, 0)
	// They are played from l, not from r.
	wantCheck(t, s, equation(t, "a = times(one,a)"), api.Proof{Steps: []api.Step{drop(0)}}, api.ErrProofStep, 0)
	wantCheck(t, s, equation(t, "a = times(one,a)"), api.Proof{Steps: []api.Step{grow(times, 1, 0)}}, api.OK, 0)
	wantCheck(t, s, equation(t, "times(one,a) = a"), api.Proof{Steps: []api.Step{grow(times, 1, 0)}}, api.ErrProofEnd, 1)
}
