package units_test

import (
	"fmt"
	"math"
	"slices"
	"strconv"
	"testing"

	"amalgam/api"
	"amalgam/sig"
	"amalgam/units"
)

func wantOf(t *testing.T, s api.Signature, l, r api.Term, want ...int) {
	t.Helper()
	if got := units.Of(s, l, r); !slices.Equal(got, want) {
		t.Errorf("Of %.200s and %.200s: %v; want %v", fmt.Sprint(l), fmt.Sprint(r), got, want)
	}
}

// wantBoth asks with the sides changed, too.
func wantBoth(t *testing.T, s api.Signature, l, r api.Term, want ...int) {
	t.Helper()
	wantOf(t, s, l, r, want...)
	wantOf(t, s, r, l, want...)
}

func TestOf(t *testing.T) {
	s := example()
	wantBoth(t, s, sy(times, v("X"), sy(a)), sy(a), one)
	wantBoth(t, s, sy(times, v("X"), v("Y")), sy(times, v("Y"), v("X")), one)
	wantBoth(t, s, sy(f, v("X"), sy(plus, sy(times, v("X"), v("Y")), sy(a))), v("Z"), one)
}

// TestOfSymbolsWithoutAUnit: neither does a constant count that is some symbol's unit, if the symbol does not stand there.
func TestOfSymbolsWithoutAUnit(t *testing.T) {
	s := example()
	wantBoth(t, s, sy(plus, v("X"), sy(a)), sy(f, v("X"), sy(a)))
	wantBoth(t, s, sy(one), sy(plus, sy(one), v("X")))
	wantBoth(t, s, v("X"), v("Y"))
	wantBoth(t, sig.Plain(s), sy(times, v("X"), v("Y")), sy(times, v("X"), sy(one)))
}

// TestOfOneUnitOfTwoSymbols: it is told once.
func TestOfOneUnitOfTwoSymbols(t *testing.T) {
	s := wide()
	x, y := sy(and, v("X"), v("Y")), sy(both, v("X"), v("Y"))
	wantBoth(t, s, x, y, no)
	wantBoth(t, s, x, x, no)
	wantBoth(t, s, sy(and, y, y, x), v("X"), no)
}

// TestOfRises: whichever symbol comes first in the terms or in the signature.
func TestOfRises(t *testing.T) {
	s := wide()
	x, y := sy(and, v("X"), v("Y")), sy(sum, v("X"), v("Y"))
	wantBoth(t, s, x, y, zero, no)
	wantBoth(t, s, sy(or, x, y), v("Z"), zero, no)
	wantBoth(t, s, sy(or, y, x, sy(both, x, y), y), v("Z"), zero, no)
	wantBoth(t, s, sy(and, y, y), x, zero, no)
}

// TestOfOneSideAlone: a symbol of the left side alone, and one of the right side alone.
func TestOfOneSideAlone(t *testing.T) {
	s := wide()
	wantOf(t, s, sy(and, v("X"), v("Y")), sy(or, v("X"), v("Y")), no)
	wantOf(t, s, sy(or, v("X"), v("Y")), sy(and, v("X"), v("Y")), no)
	wantOf(t, s, sy(sum, v("X"), v("Y")), v("X"), zero)
	wantOf(t, s, v("X"), sy(sum, v("X"), v("Y")), zero)
}

func TestOfDeepWithinATerm(t *testing.T) {
	s := wide()
	deep := chain(g, 1<<16-2, sy(sum, v("X"), v("Y")))
	wantBoth(t, s, deep, v("X"), zero)
	wantBoth(t, s, deep, chain(g, 10, sy(both, sy(no), v("Y"))), zero, no)
	wantBoth(t, s, sy(or, v("X"), sy(or, sy(zero), sy(g, sy(or, sy(no), sy(and, v("X"), v("X")))))), sy(zero), no)
	long := sy(or, append(slices.Repeat([]api.Term{v("X")}, 100000), sy(sum, v("X"), v("X")))...)
	wantBoth(t, s, long, v("X"), zero)
}

// TestOfAVariableWithASymbolsPlace: its Sym is no symbol that stands there; what lies beneath it is.
func TestOfAVariableWithASymbolsPlace(t *testing.T) {
	s := wide()
	wantBoth(t, s, under("X", sum), under("Y", and))
	wantBoth(t, s, sy(or, under("X", sum), sy(and, v("X"), under("Y", sum))), under("Z", both), no)
	wantBoth(t, s, under("X", sum, under("Y", and, v("X"))), v("X"))
	wantBoth(t, s, under("X", and, under("Y", and, sy(sum, v("X"), v("Y")))), v("X"), zero)
	// A variable whose Sym is 0, as it must be, where the place 0 has a unit.
	behind := api.Signature{{Name: "mul", Kind: api.ACU, Arity: 2, Unit: "e"}, {Name: "e", Kind: api.Free}}
	wantBoth(t, behind, v("X"), sy(1))
	wantBoth(t, behind, v("X"), sy(0), 1)
}

func TestOfWrongSignatures(t *testing.T) {
	for _, c := range []struct {
		s    api.Signature
		want []int
	}{
		{nil, nil},
		{api.Signature{}, nil},
		{api.Signature{{Name: "m", Kind: api.ACU, Unit: "e"}}, nil},
		{api.Signature{{Name: "m", Kind: api.ACU, Unit: "m"}}, []int{0}},
		{api.Signature{{Kind: api.ACU}}, []int{0}},
		{api.Signature{{Name: "m", Kind: api.ACU, Arity: -9, Unit: "e"}, {Name: "e", Kind: 77, Arity: 99}}, []int{1}},
		{api.Signature{{Name: "m", Kind: api.ACU, Unit: "e"}, {Name: "n"}, {Name: "e"}, {Name: "e", Kind: api.Free}}, []int{2}},
		{api.Signature{{Name: "m", Kind: api.AC, Unit: "e"}, {Name: "e", Kind: api.Free}}, nil},
		{api.Signature{{Name: "m", Kind: api.Free, Unit: "e"}, {Name: "e", Kind: api.Free}}, nil},
		{api.Signature{{Name: "m", Kind: 0, Unit: "e"}, {Name: "e", Kind: api.Free}}, nil},
		{api.Signature{{Name: "m", Kind: 4, Unit: "e"}, {Name: "e", Kind: api.Free}}, nil},
		{api.Signature{{Name: "m", Kind: -3, Unit: "e"}, {Name: "e", Kind: api.Free}}, nil},
		{api.Signature{{Name: "m", Kind: api.ACU, Unit: "E x"}, {Name: "E x"}}, []int{1}},
		// The unit's name stands first at a symbol that has a unit itself and stands in no term.
		{api.Signature{{Name: "m", Kind: api.ACU, Unit: "n"}, {Name: "e", Kind: api.Free}, {Name: "n", Kind: api.ACU, Unit: "e"}}, []int{2}},
	} {
		wantBoth(t, c.s, sy(0, v("X"), v("Y")), v("X"), c.want...)
	}
	// More symbols than may be.
	s := append(slices.Repeat(api.Signature{{Name: "x", Kind: api.ACU, Unit: "x"}}, 40), api.Symbol{Name: "m", Kind: api.ACU, Unit: "e"}, api.Symbol{Name: "e"})
	wantBoth(t, s, sy(40, v("X"), v("Y")), v("X"), 41)
	wantBoth(t, s, sy(40, v("X"), sy(39)), v("X"), 0, 41)
}

func TestOfWrongTerms(t *testing.T) {
	s := wide()
	for _, sym := range []int{-1, 7, 99, 1 << 32, 1<<32 + and, math.MinInt, math.MaxInt} {
		wantBoth(t, s, sy(sym), sy(sym, v("X")))
		wantBoth(t, s, sy(sym, sy(sum)), sy(sym, under("x", sym)), zero)
	}
	wantBoth(t, s, sy(sum), sy(or), zero)
	wantBoth(t, s, sy(sum, v("X")), sy(g), zero)
	wantBoth(t, s, sy(zero, sy(both)), sy(no, v("!"), sy(no)), no)
	wantBoth(t, s, v("not a name"), sy(and, v("\xff")), no)
	wantBoth(t, nil, sy(0), sy(1, sy(-1)))
	wantBoth(t, s, api.Term{}, api.Term{})
}

// TestOfOfTheSpareRoom: symbols and arguments behind a list's end do not count.
func TestOfOfTheSpareRoom(t *testing.T) {
	l := []api.Term{v("X"), v("Y"), sy(sum, v("X"), v("Y"))}
	wantBoth(t, wide(), sy(and, l[:2]...), v("X"), no)
	wantBoth(t, wide()[:3], sy(and, l...), v("X"))
	s := api.Signature{{Name: "m", Kind: api.ACU, Unit: "e"}, {Name: "e", Kind: api.Free}}
	wantBoth(t, s[:1], sy(0, v("X"), v("Y")), v("X"))
}

// ofByWords is Of as the chapter says it: each place is asked for by all symbols.
func ofByWords(s api.Signature, sides ...api.Term) []int {
	var l []int
	for place := range s {
		if slices.ContainsFunc(sides, func(t api.Term) bool { return unitOfOne(s, t, place) }) {
			l = append(l, place)
		}
	}
	return l
}

// unitOfOne: is a place that of the unit of a symbol that stands in a term?
func unitOfOne(s api.Signature, t api.Term, place int) bool {
	if t.Var == "" {
		if at, ok := sig.Unit(s, t.Sym); ok && at == place {
			return true
		}
	}
	return slices.ContainsFunc(t.Args, func(x api.Term) bool { return unitOfOne(s, x, place) })
}

func TestOfByWords(t *testing.T) {
	m := newMaker(1)
	met := map[int]int{}
	for range 20000 {
		n := m.Intn(9)
		s := m.signature(n)
		l, r := m.term(n, 1+m.Intn(20)), m.term(n, 1+m.Intn(20))
		want := ofByWords(s, l, r)
		met[len(want)]++
		if got := units.Of(s, l, r); !slices.Equal(got, want) {
			t.Fatalf("Of %v, %v and %v: %v; want %v", s, l, r, got, want)
		}
	}
	for n := range 4 {
		if met[n] < 100 {
			t.Errorf("%d units were met %d times alone", n, met[n])
		}
	}
}

// P1: a long signature with as many units is answered, too, and does not take for ever.
func TestOfALongSignature(t *testing.T) {
	const n = 100000
	var s api.Signature
	var args []api.Term
	var want []int
	for i := range n {
		s = append(s, api.Symbol{Name: "m" + strconv.Itoa(i), Kind: api.ACU, Unit: "u" + strconv.Itoa(n-i)})
		args = append(args, sy(i))
		want = append(want, n+i)
	}
	for i := range n {
		s = append(s, api.Symbol{Name: "u" + strconv.Itoa(1+i), Kind: api.Free})
	}
	if got := units.Of(s, sy(-1, args...), v("X")); !slices.Equal(got, want) {
		t.Errorf("%d units; want %d", len(got), len(want))
	}
	wantBoth(t, s, sy(0), sy(n-1), n, 2*n-1)
}
