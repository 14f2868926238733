package canon_test

import (
	"slices"
	"testing"

	"amalgam/api"
	"amalgam/canon"
	"amalgam/terms"
)

type pair struct {
	what    string
	t, want api.Term
}

// wantCanon asks Canon, Is and Equal of a term and its canonical form.
func wantCanon(t *testing.T, what string, s api.Signature, x, want api.Term) {
	t.Helper()
	wantTerm(t, what+": Canon of "+written(x), canon.Canon(s, x), want)
	if got := canon.Is(s, x); got != (written(x) == written(want)) {
		t.Errorf("%s: Is of %s: %v", what, written(x), got)
	}
	if !canon.Is(s, want) {
		t.Errorf("%s: Is of %s: false", what, written(want))
	}
	if !canon.Equal(s, x, want) || !canon.Equal(s, want, x) {
		t.Errorf("%s: %s and %s are not Equal", what, written(x), written(want))
	}
}

func wantCanons(t *testing.T, s api.Signature, l []pair) {
	t.Helper()
	for _, p := range l {
		wantCanon(t, p.what, s, p.t, p.want)
	}
}

func TestCanonExamples(t *testing.T) {
	wantCanons(t, exampleSignature(), []pair{
		{"the first", sy(plus, sy(a), sy(plus, v("X"), sy(a))), sy(plus, v("X"), sy(a), sy(a))},
		{"the second", sy(times, sy(one), sy(times, v("X"), sy(one))), v("X")},
		{"the third", sy(times, sy(one), sy(one)), sy(one)},
		{"the fourth", sy(plus, sy(one), v("X")), sy(plus, v("X"), sy(one))},
		{"the fifth", sy(f, sy(times, v("X"), sy(one)), sy(plus, v("Y"), v("X"))), sy(f, v("X"), sy(plus, v("X"), v("Y")))},
		{"the first of the whole", sy(plus, v("X"), sy(a), sy(a)), sy(plus, v("X"), sy(a), sy(a))},
	})
}

func TestCanonOfLeaves(t *testing.T) {
	for _, s := range signatures() {
		for _, name := range []string{"X", "Xy2", "_1", "Abcdefghijkl"} {
			wantCanon(t, "a variable", s, v(name), v(name))
		}
		for sym, x := range s {
			if x.Kind == api.Free && x.Arity == 0 {
				wantCanon(t, "a constant", s, sy(sym), sy(sym))
			}
		}
	}
	wantCanon(t, "a variable, no symbols", nil, v("X"), v("X"))
}

func TestCanonOfFreeSymbols(t *testing.T) {
	s := exampleSignature()
	x, y := v("X"), v("Y")
	wantCanons(t, s, []pair{
		{"canonical arguments", sy(f, x, sy(plus, x, y)), sy(f, x, sy(plus, x, y))},
		{"arguments that stay where they are", sy(f, sy(one), sy(a)), sy(f, sy(one), sy(a))},
		{"the symbol beneath itself", sy(f, sy(f, y, x), sy(f, sy(f, sy(one), x), x)), sy(f, sy(f, y, x), sy(f, sy(f, sy(one), x), x))},
		{"a unit beneath it", sy(f, sy(one), sy(one)), sy(f, sy(one), sy(one))},
		{"others", sy(f, sy(plus, y, x), sy(times, sy(a), x)), sy(f, sy(plus, x, y), sy(times, x, sy(a)))},
		{"others deep below", sy(f, x, sy(f, sy(f, y, sy(plus, y, x)), x)), sy(f, x, sy(f, sy(f, y, sy(plus, x, y)), x))},
	})
	w := wideSignature()
	wantCanons(t, w, []pair{
		{"one argument", sy(g, sy(or, y, x)), sy(g, sy(or, x, y))},
		{"three arguments", sy(h, sy(or, y, x), y, sy(and, sy(no), x)), sy(h, sy(or, x, y), y, x)},
	})
}

func TestCanonBeneathItself(t *testing.T) {
	s := exampleSignature()
	x, y, z := v("X"), v("Y"), v("Z")
	for _, sym := range []int{plus, times} {
		flat := sy(sym, x, y, z, sy(a))
		wantCanons(t, s, []pair{
			{"laid already", flat, flat},
			{"in the first place", sy(sym, sy(sym, x, y), z, sy(a)), flat},
			{"in the middle", sy(sym, x, sy(sym, y, z), sy(a)), flat},
			{"in the last place", sy(sym, x, y, sy(sym, z, sy(a))), flat},
			{"in each place", sy(sym, sy(sym, x, y), sy(sym, z, sy(a))), flat},
			{"to the left", sy(sym, sy(sym, sy(sym, x, y), z), sy(a)), flat},
			{"to the right", sy(sym, x, sy(sym, y, sy(sym, z, sy(a)))), flat},
			{"to the right, out of order", sy(sym, sy(a), sy(sym, z, sy(sym, y, x))), flat},
			{"zigzag", sy(sym, sy(sym, sy(a), sy(sym, x, z)), y), flat},
		})
		// Beneath another one it stays whole.
		other := plus + times - sym
		inner := sy(other, x, y)
		wantCanons(t, s, []pair{
			{"beneath another one", sy(other, sy(sym, y, x), z), sy(other, z, sy(sym, x, y))},
			{"another one between", sy(sym, z, sy(other, sy(sym, sy(a), x), y)), sy(sym, z, sy(other, y, sy(sym, x, sy(a))))},
			{"both, beside one another", sy(sym, inner, sy(sym, sy(other, y, x), z)), sy(sym, z, inner, inner)},
			{"a free one between", sy(sym, x, sy(f, sy(sym, y, x), z)), sy(sym, x, sy(f, sy(sym, x, y), z))},
		})
	}
	w := wideSignature()
	wantCanons(t, w, []pair{
		{"AC beneath another AC", sy(or, sy(8, y, x), sy(or, z, x)), sy(or, x, z, sy(8, x, y))},
		{"ACU beneath another one of the same unit", sy(and, sy(both, y, x), sy(and, z, x)), sy(and, x, z, sy(both, x, y))},
		{"a variable, whose Sym is the symbol's place", sy(or, y, x, v("_1")), sy(or, x, y, v("_1"))},
	})
}

func TestCanonOfUnits(t *testing.T) {
	s := exampleSignature()
	x, y, u := v("X"), v("Y"), sy(one)
	wantCanons(t, s, []pair{
		{"once, in the first place", sy(times, u, x, y), sy(times, x, y)},
		{"once, in the middle", sy(times, x, u, y), sy(times, x, y)},
		{"once, in the last place", sy(times, x, y, u), sy(times, x, y)},
		{"many times", sy(times, u, u, x, u, y, u, u), sy(times, x, y)},
		{"many times, below", sy(times, sy(times, u, x), sy(times, y, sy(times, u, u))), sy(times, x, y)},
		{"one is left", sy(times, u, x), x},
		{"one is left of many", sy(times, u, u, sy(a), u), sy(a)},
		{"one is left, of another symbol", sy(times, u, sy(plus, y, x)), sy(plus, x, y)},
		{"one is left, of a free symbol", sy(times, u, sy(f, sy(times, u, x), y)), sy(f, x, y)},
		{"all", sy(times, u, u, u), u},
		{"all, below", sy(times, sy(times, u, u), sy(times, u, sy(times, u, u))), u},
		{"not its own: AC", sy(plus, u, x), sy(plus, x, u)},
		{"not its own: AC, all", sy(plus, u, u), sy(plus, u, u)},
		{"not its own: free", sy(f, u, u), sy(f, u, u)},
	})
	w := wideSignature()
	wantCanons(t, w, []pair{
		{"another symbol's unit", sy(sum, sy(no), x), sy(sum, x, sy(no))},
		{"another symbol's unit, alone", sy(and, sy(zero), sy(zero)), sy(and, sy(zero), sy(zero))},
		{"both units", sy(sum, sy(no), sy(zero)), sy(no)},
		{"both units, many times", sy(and, sy(no), sy(zero), sy(no), sy(zero)), sy(and, sy(zero), sy(zero))},
		{"one unit of two symbols", sy(both, sy(and, sy(no), sy(no)), sy(no)), sy(no)},
	})
	m := unitFirst()
	wantCanons(t, m, []pair{
		{"a variable, whose Sym is the unit's place", sy(1, x, y), sy(1, x, y)},
		{"such a variable and the unit", sy(1, sy(0), x), x},
		{"such a variable is left of many", sy(1, sy(0), sy(1, x, sy(0)), sy(0)), x},
	})
}

// TestCanonOfWhatComesOut: units and terms of the symbol that are there only when what is beneath is canonical.
func TestCanonOfWhatComesOut(t *testing.T) {
	w := wideSignature()
	x, y, z := v("X"), v("Y"), v("Z")
	n, o := sy(no), sy(zero)
	wantCanons(t, w, []pair{
		{"a unit of its own", sy(and, x, sy(and, n, n), y), sy(and, x, y)},
		{"a unit of another symbol with the same one", sy(and, x, sy(both, n, n)), x},
		{"a unit beneath another symbol", sy(and, x, sy(sum, n, o)), x},
		{"a unit deep below", sy(and, x, sy(sum, sy(both, n, sy(and, n, n)), sy(sum, o, o))), x},
		{"all are units that come out", sy(and, sy(both, n, n), sy(sum, n, o)), n},
		{"another symbol's unit that comes out", sy(and, x, sy(sum, o, o)), sy(and, x, o)},
		{"no unit, since it stays beneath an AC symbol", sy(and, x, sy(or, n, n)), sy(and, x, sy(or, n, n))},
		{"a term of its own", sy(and, z, sy(sum, o, sy(and, y, x))), sy(and, x, y, z)},
		{"a term of its own, deep below", sy(or, z, sy(and, n, sy(sum, o, sy(or, y, x)))), sy(or, x, y, z)},
		{"terms of its own, again and again", sy(or, z, sy(and, n, sy(or, y, sy(sum, sy(or, x, x), o)))), sy(or, x, x, y, z)},
		{"order that comes out", sy(or, sy(and, y, n), sy(and, n, x)), sy(or, x, y)},
		{"order beneath that comes out", sy(or, sy(g, sy(and, y, n)), sy(g, x)), sy(or, sy(g, x), sy(g, y))},
		{"one is left, whose arguments are out of order", sy(and, n, sy(or, y, x)), sy(or, x, y)},
	})
}

func TestCanonKeepsEqualArguments(t *testing.T) {
	s := exampleSignature()
	x := v("X")
	for _, sym := range []int{plus, times} {
		for n := 2; n < 10; n++ {
			l := slices.Repeat([]api.Term{x}, n)
			wantCanon(t, "a variable many times", s, sy(sym, l...), sy(sym, l...))
			wantCanon(t, "twice", s, sy(sym, sy(sym, l...), sy(sym, l...)), sy(sym, slices.Concat(l, l)...))
			l = slices.Repeat([]api.Term{sy(f, x, sy(a))}, n)
			wantCanon(t, "a term many times", s, sy(sym, l...), sy(sym, l...))
		}
	}
	wantCanon(t, "equal, as they are written not alike", s,
		sy(plus, sy(times, v("Y"), x), sy(times, x, v("Y")), sy(times, x, sy(times, v("Y"), sy(one)))),
		sy(plus, sy(times, x, v("Y")), sy(times, x, v("Y")), sy(times, x, v("Y"))))
}

// TestCanonOrder: all orders of some arguments lead to the one that Compare tells.
func TestCanonOrder(t *testing.T) {
	s := exampleSignature()
	rising := []api.Term{v("X"), v("X1"), v("_1"), sy(a), sy(f, v("X"), sy(a)), sy(f, sy(a), v("X")), sy(plus, v("X"), v("Y"))}
	for _, l := range orders(rising[:6]) {
		wantTerm(t, "Canon", canon.Canon(s, sy(plus, l...)), sy(plus, rising[:6]...))
		wantTerm(t, "Canon", canon.Canon(s, sy(times, l...)), sy(times, rising[:6]...))
	}
	for _, l := range orders(rising[3:]) {
		wantCanon(t, "orders", s, sy(times, l...), sy(times, rising[3:]...))
	}
	// Fewer arguments come ahead, whatever they are.
	few, many := sy(times, sy(f, sy(a), sy(a)), sy(f, sy(a), sy(a))), sy(times, v("X"), v("X"), v("X"))
	wantCanon(t, "numbers of arguments", s, sy(plus, many, few), sy(plus, few, many))
}

func orders(l []api.Term) [][]api.Term {
	if len(l) == 0 {
		return [][]api.Term{nil}
	}
	var all [][]api.Term
	for i, x := range l {
		for _, rest := range orders(slices.Concat(l[:i], l[i+1:])) {
			all = append(all, append([]api.Term{x}, rest...))
		}
	}
	return all
}

// TestIsOfNearlyCanonical: terms that differ from their canonical form in one thing alone.
func TestIsOfNearlyCanonical(t *testing.T) {
	s := exampleSignature()
	x, y := v("X"), v("Y")
	for _, c := range []struct {
		what string
		t    api.Term
		want bool
	}{
		{"a canonical form", sy(plus, x, y, sy(times, x, sy(a))), true},
		{"in its order", sy(plus, y, x, sy(times, x, sy(a))), false},
		{"in the order below", sy(plus, x, y, sy(times, sy(a), x)), false},
		{"in the order of its end", sy(plus, x, sy(times, x, sy(a)), y), false},
		{"in its nesting", sy(plus, x, sy(plus, y, sy(times, x, sy(a)))), false},
		{"in its nesting, in order", sy(plus, x, sy(plus, x, x)), false},
		{"in a unit", sy(times, x, sy(one)), false},
		{"in a unit below", sy(f, x, sy(times, x, y, sy(one))), false},
		{"in units alone", sy(times, sy(one), sy(one)), false},
		{"free arguments out of order", sy(f, y, x), true},
		{"another symbol's unit", sy(plus, x, sy(one)), true},
	} {
		if got := canon.Is(s, c.t); got != c.want {
			t.Errorf("Is of %s, %s: %v", written(c.t), c.what, got)
		}
	}
}

func TestEqualOfUnlikeTerms(t *testing.T) {
	s := exampleSignature()
	x, y, z := v("X"), v("Y"), v("Z")
	for _, c := range [][2]api.Term{
		{x, y},
		{x, sy(a)},
		{sy(a), sy(one)},
		{sy(f, x, y), sy(f, y, x)},
		{sy(f, x, sy(f, y, z)), sy(f, sy(f, x, y), z)},
		{sy(f, x, sy(one)), x},
		{sy(plus, x, sy(one)), x},
		{sy(plus, x, y), sy(times, x, y)},
		{sy(plus, x, x), sy(plus, x, x, x)},
		{sy(plus, x, x), x},
		{sy(plus, x, x, y), sy(plus, x, y, y)},
		{sy(times, x, x), x},
		{sy(times, sy(plus, x, y), z), sy(plus, sy(times, x, z), sy(times, y, z))},
		{sy(plus, sy(times, x, y), z), sy(plus, x, sy(times, y, z))},
	} {
		if canon.Equal(s, c[0], c[1]) || canon.Equal(s, c[1], c[0]) {
			t.Errorf("%s and %s are Equal", written(c[0]), written(c[1]))
		}
	}
}

func TestCanonOfAllSmallTerms(t *testing.T) {
	for i, n := range []int{5, 4, 7} {
		s := signatures()[i]
		for _, x := range smallTerms(s, 2, n) {
			wantCanon(t, "small", s, x, fallen(s, x))
			if t.Failed() {
				return
			}
		}
	}
}

func TestCanonOfManyTerms(t *testing.T) {
	for _, s := range signatures() {
		seen := 0
		for _, x := range manyTerms(s, 600) {
			if terms.Size(x) == api.MaxTerm {
				seen++
			}
			wantCanon(t, "many", s, x, fallen(s, x))
			if t.Failed() {
				return
			}
		}
		if seen < 10 {
			t.Errorf("only %d terms have %d nodes", seen, api.MaxTerm)
		}
	}
}
