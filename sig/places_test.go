package sig_test

import (
	"math"
	"slices"
	"testing"

	"amalgam/api"
	"amalgam/sig"
)

func wantFind(t *testing.T, s api.Signature, name string, at int, ok bool) {
	t.Helper()
	if gotAt, gotOK := sig.Find(s, name); gotAt != at || gotOK != ok {
		t.Errorf("Find of %q = %d, %v; want %d, %v", name, gotAt, gotOK, at, ok)
	}
}

func wantUnit(t *testing.T, s api.Signature, sym int, at int, ok bool) {
	t.Helper()
	if gotAt, gotOK := sig.Unit(s, sym); gotAt != at || gotOK != ok {
		t.Errorf("Unit of %d = %d, %v; want %d, %v", sym, gotAt, gotOK, at, ok)
	}
}

func wantUnits(t *testing.T, s api.Signature, want ...int) {
	t.Helper()
	if got := sig.Units(s); !slices.Equal(got, want) {
		t.Errorf("Units = %v; want %v", got, want)
	}
}

// wrongSignature has names that stand twice, units that are none, and kinds that are none.
func wrongSignature() api.Signature {
	return api.Signature{
		acu("f", "u"),
		free("a", 0),
		acu("g", "g"),
		free("u", 3),
		free("a", 1),
		free("u", 0),
		acu("h", "a"),
		acu("i", "nowhere"),
		acu("j", "a"),
		{Name: "k", Kind: api.AC, Arity: 2, Unit: "f"},
		{Name: "l", Kind: 9, Unit: "f"},
		{Name: "m", Kind: api.Free, Unit: "f"},
	}
}

func TestFind(t *testing.T) {
	s := exampleSignature()
	for i, name := range []string{"a", "one", "f", "plus", "times"} {
		wantFind(t, s, name, i, true)
	}
	for _, name := range []string{"g", "", "A", "on", "ones", "plus ", "X"} {
		wantFind(t, s, name, 0, false)
	}
	wantFind(t, nil, "a", 0, false)
	wantFind(t, nil, "", 0, false)
	w := wrongSignature()
	wantFind(t, w, "a", 1, true)
	wantFind(t, w, "u", 3, true)
	wantFind(t, w, "l", 10, true)
	wantFind(t, api.Signature{free("a", 0), {}, free("X y", 0)}, "", 1, true)
	wantFind(t, api.Signature{free("a", 0), {}, free("X y", 0)}, "X y", 2, true)
	long := nullary(600)
	wantFind(t, long, long[599].Name, 599, true)
}

func TestUnit(t *testing.T) {
	s := exampleSignature()
	wantUnit(t, s, 4, 1, true)
	for _, sym := range []int{0, 1, 2, 3, 5, 6, -1, -5, math.MaxInt, math.MinInt} {
		wantUnit(t, s, sym, 0, false)
	}
	wantUnit(t, nil, 0, 0, false)
	wantUnit(t, nil, -1, 0, false)
}

func TestUnitOfAnySignature(t *testing.T) {
	w := wrongSignature()
	wantUnit(t, w, 0, 3, true) // behind, with arguments, the first of two
	wantUnit(t, w, 2, 2, true) // itself
	wantUnit(t, w, 6, 1, true)
	wantUnit(t, w, 7, 0, false)
	wantUnit(t, w, 8, 1, true)
	wantUnit(t, w, 9, 0, false)
	wantUnit(t, w, 10, 0, false)
	wantUnit(t, w, 11, 0, false)
	wantUnit(t, api.Signature{acu("f", "")}, 0, 0, false)
	wantUnit(t, api.Signature{acu("f", ""), {}}, 0, 1, true)
	wantUnit(t, api.Signature{{Name: "f", Kind: api.ACU, Arity: -7, Unit: "f"}}, 0, 0, true)
}

func TestUnits(t *testing.T) {
	wantUnits(t, exampleSignature(), 1)
	wantUnits(t, exampleSignature()[:4])
	wantUnits(t, nil)
	wantUnits(t, api.Signature{free("one", 0), free("two", 0), acu("f", "two"), acu("g", "one")}, 0, 1)
	wantUnits(t, api.Signature{free("one", 0), free("two", 0), acu("f", "two"), acu("g", "two")}, 1)
	wantUnits(t, api.Signature{free("one", 0), free("two", 0), acu("f", "one"), acu("g", "two"), acu("h", "one")}, 0, 1)
	wantUnits(t, wrongSignature(), 1, 2, 3)
}

func TestUnitsOfALongSignature(t *testing.T) {
	const n = 1 << 16
	s := make(api.Signature, n)
	for i := range s {
		s[i] = acu("f", "nowhere")
	}
	wantUnits(t, s)
	s[n-1].Name = "nowhere"
	wantUnits(t, s, n-1)
}

// TestUnitsAreThoseOfUnit holds Units against Unit, symbol by symbol.
func TestUnitsAreThoseOfUnit(t *testing.T) {
	for s := range signatures(3) {
		told := make([]bool, len(s))
		for sym := range s {
			if at, ok := sig.Unit(s, sym); ok {
				told[at] = true
			}
		}
		var want []int
		for at, ok := range told {
			if ok {
				want = append(want, at)
			}
		}
		wantUnits(t, s, want...)
	}
}

func TestPlain(t *testing.T) {
	s := exampleSignature()
	want := exampleSignature()
	want[4].Kind, want[4].Unit = api.AC, ""
	if got := sig.Plain(s); !slices.Equal(got, want) {
		t.Errorf("Plain = %v", got)
	}
	if got := sig.Plain(nil); len(got) != 0 {
		t.Errorf("Plain of nothing = %v", got)
	}
}

func TestPlainOfAnySignature(t *testing.T) {
	w := wrongSignature()
	w = append(w, api.Symbol{Name: "n", Kind: api.ACU, Arity: 7, Unit: ""}, api.Symbol{})
	got := sig.Plain(w)
	if len(got) != len(w) {
		t.Fatalf("Plain has %d symbols, not %d", len(got), len(w))
	}
	for i, x := range w {
		if x.Kind == api.ACU {
			x = api.Symbol{Name: x.Name, Kind: api.AC, Arity: x.Arity}
		}
		if got[i] != x {
			t.Errorf("Plain at %d: %v; want %v", i, got[i], x)
		}
	}
}
