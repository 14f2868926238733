package sig_test

import (
	"math"
	"strings"
	"testing"

	"amalgam/api"
	"amalgam/sig"
)

// The signature of the document's examples.
func exampleSignature() api.Signature {
	return api.Signature{
		{Name: "a", Kind: api.Free},
		{Name: "one", Kind: api.Free},
		{Name: "f", Kind: api.Free, Arity: 2},
		{Name: "plus", Kind: api.AC, Arity: 2},
		{Name: "times", Kind: api.ACU, Arity: 2, Unit: "one"},
	}
}

func free(name string, arity int) api.Symbol {
	return api.Symbol{Name: name, Kind: api.Free, Arity: arity}
}
func ac(name string) api.Symbol { return api.Symbol{Name: name, Kind: api.AC, Arity: 2} }
func acu(name, unit string) api.Symbol {
	return api.Symbol{Name: name, Kind: api.ACU, Arity: 2, Unit: unit}
}

// nullary is so many free symbols without arguments, with names of their own.
func nullary(n int) api.Signature {
	var s api.Signature
	for i := range n {
		s = append(s, free("c"+string(smalls[i/26])+string(smalls[i%26]), 0))
	}
	return s
}

func wantCheck(t *testing.T, what string, s api.Signature, e api.Errno, at int) {
	t.Helper()
	if gotE, gotAt := sig.Check(s); gotE != e || gotAt != at {
		t.Errorf("Check of %s = %d, %d; want %d, %d", what, gotE, gotAt, e, at)
	}
}

func TestCheckExamples(t *testing.T) {
	s := exampleSignature()
	wantCheck(t, "S", s, api.OK, 0)
	wantCheck(t, "S and f", append(exampleSignature(), free("f", 2)), api.ErrSigName, 5)
	wantCheck(t, "times first", append(api.Signature{s[4]}, s[:4]...), api.ErrSigUnit, 0)
}

func TestCheckMany(t *testing.T) {
	wantCheck(t, "nil", nil, api.OK, 0)
	wantCheck(t, "nothing", api.Signature{}, api.OK, 0)
	wantCheck(t, "1", nullary(1), api.OK, 0)
	wantCheck(t, "16", nullary(16), api.OK, 0)
	wantCheck(t, "17", nullary(17), api.ErrSigMany, 0)
	wantCheck(t, "600", nullary(600), api.ErrSigMany, 0)
	wrong := nullary(17)
	wrong[0].Name, wrong[3].Kind = "X", 9
	wantCheck(t, "17, others of them wrong", wrong, api.ErrSigMany, 0)
	wantCheck(t, "16 of these", wrong[:16], api.ErrSigName, 0)
	wantCheck(t, "a wrong one at 15", append(nullary(15), free("X", 0)), api.ErrSigName, 15)
	wantCheck(t, "a wrong one at 16", append(nullary(16), free("X", 0)), api.ErrSigMany, 0)
}

func TestCheckNames(t *testing.T) {
	for _, name := range []string{"", "X", "_1", "2a", "a b", "é", strings.Repeat("a", 13)} {
		wantCheck(t, name, api.Signature{free(name, 0)}, api.ErrSigName, 0)
		wantCheck(t, "a, "+name, api.Signature{free("a", 0), ac(name)}, api.ErrSigName, 1)
	}
	for _, name := range []string{"a", "a1", strings.Repeat("a", 12)} {
		wantCheck(t, name, api.Signature{free(name, 0)}, api.OK, 0)
	}
	wantCheck(t, "a, b, a", api.Signature{free("a", 0), free("b", 0), free("a", 0)}, api.ErrSigName, 2)
	wantCheck(t, "a, a, b, b", api.Signature{free("a", 0), free("a", 0), free("b", 0), free("b", 0)}, api.ErrSigName, 1)
	wantCheck(t, "a of two kinds", api.Signature{free("a", 0), ac("a")}, api.ErrSigName, 1)
	wantCheck(t, "a of two arities", api.Signature{free("a", 0), free("a", 1)}, api.ErrSigName, 1)
	wantCheck(t, "one, one by its own unit", api.Signature{free("one", 0), acu("one", "one")}, api.ErrSigName, 1)
	wantCheck(t, "a, ab", api.Signature{free("a", 0), free("ab", 0)}, api.OK, 0)
}

func TestCheckKinds(t *testing.T) {
	for _, kind := range []api.Kind{0, 4, -1, 7, math.MaxInt, math.MinInt} {
		for arity := range 4 {
			wantCheck(t, "no kind", api.Signature{{Name: "a", Kind: kind, Arity: arity}}, api.ErrSigKind, 0)
			wantCheck(t, "no kind behind", append(nullary(3), api.Symbol{Name: "a", Kind: kind, Arity: arity}), api.ErrSigKind, 3)
		}
	}
}

func TestCheckArities(t *testing.T) {
	for _, arity := range []int{math.MinInt, -2, -1, 0, 1, 2, 3, 4, 5, 6, math.MaxInt} {
		freeWant, otherWant := api.ErrSigArity, api.ErrSigArity
		if 0 <= arity && arity <= 4 {
			freeWant = api.OK
		}
		if arity == 2 {
			otherWant = api.OK
		}
		at := func(e api.Errno) int {
			if e == api.OK {
				return 0
			}
			return 1
		}
		one := free("one", 0)
		wantCheck(t, "free", api.Signature{one, free("f", arity)}, freeWant, at(freeWant))
		wantCheck(t, "AC", api.Signature{one, {Name: "f", Kind: api.AC, Arity: arity}}, otherWant, at(otherWant))
		wantCheck(t, "ACU", api.Signature{one, {Name: "f", Kind: api.ACU, Arity: arity, Unit: "one"}}, otherWant, at(otherWant))
	}
}

func TestCheckUnits(t *testing.T) {
	one := free("one", 0)
	for _, c := range []struct {
		what string
		s    api.Signature
		e    api.Errno
		at   int
	}{
		{"just ahead", api.Signature{one, acu("f", "one")}, api.OK, 0},
		{"further ahead", api.Signature{one, free("g", 1), ac("h"), acu("f", "one")}, api.OK, 0},
		{"shared", api.Signature{one, acu("f", "one"), acu("g", "one")}, api.OK, 0},
		{"two units", api.Signature{one, free("two", 0), acu("f", "two"), acu("g", "one")}, api.OK, 0},
		{"behind", api.Signature{acu("f", "one"), one}, api.ErrSigUnit, 0},
		{"behind another", api.Signature{one, acu("f", "two"), free("two", 0)}, api.ErrSigUnit, 1},
		{"itself", api.Signature{acu("f", "f")}, api.ErrSigUnit, 0},
		{"nowhere", api.Signature{one, acu("f", "two")}, api.ErrSigUnit, 1},
		{"a longer name", api.Signature{one, acu("f", "ones")}, api.ErrSigUnit, 1},
		{"a shorter name", api.Signature{one, acu("f", "on")}, api.ErrSigUnit, 1},
		{"empty", api.Signature{one, acu("f", "")}, api.ErrSigUnit, 1},
		{"AC", api.Signature{one, ac("p"), acu("f", "p")}, api.ErrSigUnit, 2},
		{"ACU", api.Signature{one, acu("p", "one"), acu("f", "p")}, api.ErrSigUnit, 2},
		{"of one argument", api.Signature{free("u", 1), acu("f", "u")}, api.ErrSigUnit, 1},
		{"of two arguments", api.Signature{free("u", 2), acu("f", "u")}, api.ErrSigUnit, 1},
		{"of a free symbol", api.Signature{one, {Name: "g", Kind: api.Free, Unit: "one"}}, api.ErrSigUnit, 1},
		{"of an AC symbol", api.Signature{one, {Name: "g", Kind: api.AC, Arity: 2, Unit: "one"}}, api.ErrSigUnit, 1},
		{"of a free symbol, nowhere", api.Signature{{Name: "g", Kind: api.Free, Unit: "zz"}}, api.ErrSigUnit, 0},
		{"of the unit itself", api.Signature{{Name: "one", Kind: api.Free, Unit: "x"}, acu("f", "one")}, api.ErrSigUnit, 0},
	} {
		wantCheck(t, "a unit: "+c.what, c.s, c.e, c.at)
	}
}

func TestCheckSeveralErrors(t *testing.T) {
	name, kind, arity, unit := "F", api.Kind(9), 9, "zz"
	x := api.Symbol{Name: name, Kind: kind, Arity: arity, Unit: unit}
	wantCheck(t, "all wrong", api.Signature{x}, api.ErrSigName, 0)
	x.Name = "f"
	wantCheck(t, "kind, arity, unit wrong", api.Signature{x}, api.ErrSigKind, 0)
	wantCheck(t, "twice, kind wrong", api.Signature{free("f", 0), x}, api.ErrSigName, 1)
	for _, k := range []api.Kind{api.Free, api.AC, api.ACU} {
		y := x
		y.Kind = k
		wantCheck(t, "arity, unit wrong", api.Signature{y}, api.ErrSigArity, 0)
		y.Arity = 2
		wantCheck(t, "unit wrong", api.Signature{y}, api.ErrSigUnit, 0)
		y.Name = name
		wantCheck(t, "name, unit wrong", api.Signature{y}, api.ErrSigName, 0)
		y.Unit = ""
		y.Arity = arity
		wantCheck(t, "name, arity wrong", api.Signature{y}, api.ErrSigName, 0)
	}
	// The first symbol that is wrong counts, however late its error comes among a symbol's errors.
	wantCheck(t, "unit ahead of name", api.Signature{free("a", 0), acu("f", "b"), free("X", 0)}, api.ErrSigUnit, 1)
	wantCheck(t, "arity ahead of kind", api.Signature{free("a", 5), {Name: "b", Kind: 8}}, api.ErrSigArity, 0)
	wantCheck(t, "kind ahead of name", api.Signature{free("a", 4), {Name: "b", Kind: 8}, free("a", 0)}, api.ErrSigKind, 1)
}
