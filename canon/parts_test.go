package canon_test

import (
	"math"
	"slices"
	"testing"

	"amalgam/api"
	"amalgam/canon"
	"amalgam/terms"
)

// noPlaces are no symbols' places in a signature of n symbols.
func noPlaces(n int) []int {
	return []int{-1, n, n + 1, 99, math.MinInt, math.MaxInt}
}

func wantParts(t *testing.T, what string, s api.Signature, sym int, x api.Term, want ...api.Term) {
	t.Helper()
	if l := canon.Parts(s, sym, x); writtenList(l) != writtenList(want) || len(l) != len(want) {
		t.Errorf("%s: Parts of %s by %d: %s; want %s", what, written(x), sym, writtenList(l), writtenList(want))
	}
}

func TestParts(t *testing.T) {
	s := exampleSignature()
	x, y, u := v("X"), v("Y"), sy(one)
	sum2, prod := sy(plus, x, y), sy(times, x, x, y)
	wantParts(t, "a term of the symbol, AC", s, plus, sum2, x, y)
	wantParts(t, "a term of the symbol, ACU", s, times, prod, x, x, y)
	wantParts(t, "a term of another one", s, plus, prod, prod)
	wantParts(t, "a term of another one", s, times, sum2, sum2)
	wantParts(t, "a term of a free symbol", s, plus, sy(f, x, y), sy(f, x, y))
	wantParts(t, "a variable", s, plus, x, x)
	wantParts(t, "a variable", s, times, x, x)
	wantParts(t, "a constant", s, plus, sy(a), sy(a))
	wantParts(t, "a constant", s, times, sy(a), sy(a))
	wantParts(t, "the unit", s, times, u)
	wantParts(t, "another symbol's unit", s, plus, u, u)
	wantParts(t, "parts that have parts", s, plus, sy(plus, x, sy(times, x, y)), x, sy(times, x, y))
}

func TestPartsByFreeSymbols(t *testing.T) {
	s := exampleSignature()
	for _, x := range []api.Term{v("X"), sy(a), sy(one), sy(f, v("X"), sy(a)), sy(plus, v("X"), v("Y")), sy(times, v("X"), v("Y"))} {
		for _, sym := range []int{a, one, f} {
			wantParts(t, "by a free symbol", s, sym, x, x)
		}
		for _, sym := range noPlaces(len(s)) {
			wantParts(t, "by no symbol's place", s, sym, x, x)
		}
		wantParts(t, "by no symbols", nil, 0, v("X"), v("X"))
	}
	// A symbol that stands in the spare room is none.
	wantParts(t, "by a symbol of the spare room", s[:4], times, sy(one), sy(one))
}

func TestPartsOfWideSignature(t *testing.T) {
	w, m := wideSignature(), unitFirst()
	x, y := v("X"), v("Y")
	wantParts(t, "a variable, whose Sym is the symbol's place", w, or, x, x)
	wantParts(t, "a variable, whose Sym is the unit's place", m, 1, x, x)
	wantParts(t, "the unit at 0", m, 1, sy(0))
	wantParts(t, "one unit of two symbols", w, and, sy(no))
	wantParts(t, "one unit of two symbols", w, both, sy(no))
	wantParts(t, "another symbol's unit", w, sum, sy(no), sy(no))
	wantParts(t, "another symbol of the same unit", w, and, sy(both, x, y), sy(both, x, y))
}

// partsAgain is what the document says of Parts, said again.
func partsAgain(s api.Signature, sym int, x api.Term) []api.Term {
	if sym < 0 || sym >= len(s) || s[sym].Kind == api.Free || x.Var != "" {
		return []api.Term{x}
	}
	if x.Sym == sym {
		return x.Args
	}
	if x.Sym == unitOf(s, sym) {
		return nil
	}
	return []api.Term{x}
}

func TestPartsOfManyTerms(t *testing.T) {
	for _, s := range signatures() {
		for _, x := range slices.Concat(smallTerms(s, 1, 4), manyTerms(s, 400)) {
			x = fallen(s, x)
			for sym := -1; sym <= len(s); sym++ {
				wantParts(t, "many", s, sym, x, partsAgain(s, sym, x)...)
			}
			if t.Failed() {
				return
			}
		}
	}
}

func wantJoin(t *testing.T, what string, s api.Signature, sym int, l []api.Term, want api.Term) {
	t.Helper()
	got, ok := canon.Join(s, sym, l)
	if !ok || written(got) != written(want) {
		t.Errorf("%s: Join of %s by %d: %s, %v; want %s", what, writtenList(l), sym, written(got), ok, written(want))
	}
}

// wantNoJoin: beside false there is a zero term.
func wantNoJoin(t *testing.T, what string, s api.Signature, sym int, l []api.Term) {
	t.Helper()
	got, ok := canon.Join(s, sym, l)
	if ok || got.Var != "" || got.Sym != 0 || len(got.Args) > 0 {
		t.Errorf("%s: Join of %s by %d: %s, %v", what, writtenList(l), sym, written(got), ok)
	}
}

func TestJoin(t *testing.T) {
	s := exampleSignature()
	x, y, z, u := v("X"), v("Y"), v("Z"), sy(one)
	wantJoin(t, "two, AC", s, plus, []api.Term{y, x}, sy(plus, x, y))
	wantJoin(t, "two, ACU", s, times, []api.Term{y, x}, sy(times, x, y))
	wantJoin(t, "many", s, plus, []api.Term{z, y, x, u, sy(a), x}, sy(plus, x, x, y, z, sy(a), u))
	wantJoin(t, "many with units", s, times, []api.Term{u, z, y, u, x, sy(a), x}, sy(times, x, x, y, z, sy(a)))
	wantJoin(t, "terms of the symbol", s, plus, []api.Term{sy(plus, z, y), sy(plus, x, sy(plus, y, y))}, sy(plus, x, y, y, y, z))
	wantJoin(t, "terms that are not canonical", s, times, []api.Term{sy(plus, y, x), sy(times, z, u)}, sy(times, z, sy(plus, x, y)))
	wantJoin(t, "units alone", s, times, []api.Term{u, u}, u)
	wantJoin(t, "units that come out", s, times, []api.Term{sy(times, u, u), u, x, sy(times, u, u)}, x)
	wantJoin(t, "a unit by an AC symbol", s, plus, []api.Term{u, u}, sy(plus, u, u))
}

func TestJoinOfOne(t *testing.T) {
	s := exampleSignature()
	x, y, u := v("X"), v("Y"), sy(one)
	for _, sym := range []int{plus, times} {
		wantJoin(t, "a variable", s, sym, []api.Term{x}, x)
		wantJoin(t, "a constant", s, sym, []api.Term{sy(a)}, sy(a))
		wantJoin(t, "the unit", s, sym, []api.Term{u}, u)
		wantJoin(t, "a term of its own", s, sym, []api.Term{sy(sym, y, sy(sym, x, y))}, sy(sym, x, y, y))
		wantJoin(t, "a term that is not canonical", s, sym, []api.Term{sy(f, sy(plus, y, x), u)}, sy(f, sy(plus, x, y), u))
		wantJoin(t, "one of another symbol", s, sym, []api.Term{sy(plus+times-sym, y, x)}, sy(plus+times-sym, x, y))
	}
	wantJoin(t, "units", s, plus, []api.Term{sy(times, u, u)}, u)
	wantJoin(t, "a variable, whose Sym is the symbol's place", wideSignature(), or, []api.Term{x}, x)
	wantJoin(t, "a variable, whose Sym is the unit's place", unitFirst(), 1, []api.Term{x}, x)
}

func TestJoinOfNone(t *testing.T) {
	s := exampleSignature()
	for _, none := range [][]api.Term{nil, {}} {
		wantNoJoin(t, "AC", s, plus, none)
		wantJoin(t, "ACU", s, times, none, sy(one))
		wantJoin(t, "ACU, its unit at 0", unitFirst(), 1, none, sy(0))
		wantJoin(t, "a second ACU", wideSignature(), sum, none, sy(zero))
		wantNoJoin(t, "no symbols", nil, 0, none)
	}
}

func TestJoinByFreeSymbols(t *testing.T) {
	s := exampleSignature()
	for n := range 4 {
		l := slices.Repeat([]api.Term{v("X")}, n)
		for _, sym := range slices.Concat([]int{a, one, f}, noPlaces(len(s))) {
			wantNoJoin(t, "by a free symbol, or none", s, sym, l)
		}
		wantNoJoin(t, "by a symbol of the spare room", s[:4], times, l)
	}
}

func TestJoinOfManyLists(t *testing.T) {
	for _, s := range signatures() {
		m := newMaker(31)
		for range 400 {
			var l []api.Term
			for range 2 + m.Intn(5) {
				l = append(l, m.right(s, 1+m.Intn(12)))
			}
			for sym, x := range s {
				if x.Kind == api.Free {
					wantNoJoin(t, "many", s, sym, l)
					continue
				}
				wantJoin(t, "many", s, sym, l, fallen(s, sy(sym, l...)))
				wantJoin(t, "one of many", s, sym, l[:1], fallen(s, l[0]))
			}
			if t.Failed() {
				return
			}
		}
	}
}

// P4.3
func TestJoinOfPartsAndPartsOfJoin(t *testing.T) {
	for _, s := range signatures() {
		l := slices.Concat(smallTerms(s, 2, 3), manyTerms(s, 60))
		m := newMaker(37)
		for sym, x := range s {
			if x.Kind == api.Free {
				continue
			}
			for _, y := range l {
				y = canon.Canon(s, y)
				wantJoin(t, "Parts", s, sym, canon.Parts(s, sym, y), y)
			}
			for range 300 {
				in := make([]api.Term, 1+m.Intn(5))
				var want []api.Term
				for i := range in {
					in[i] = l[m.Intn(len(l))]
					want = append(want, canon.Parts(s, sym, canon.Canon(s, in[i]))...)
				}
				slices.SortFunc(want, terms.Compare)
				got, _ := canon.Join(s, sym, in)
				wantParts(t, "Join", s, sym, got, want...)
			}
			if t.Failed() {
				return
			}
		}
	}
}
