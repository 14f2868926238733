package sig_test

import (
	"iter"
	"slices"
	"strings"
	"testing"

	"amalgam/api"
	"amalgam/sig"
)

// pool is symbols of which signatures are made: right ones, and ones that are wrong each in its own way.
func pool() []api.Symbol {
	return []api.Symbol{
		free("a", 0), free("b", 0), free("f", 4), free("a", 1), ac("p"), acu("q", "a"), acu("r", "b"), acu("q", ""),
		free("X", 0), free("b", 5), {Name: "c"}, {Name: "d", Kind: api.Free, Unit: "a"}, {Name: "e", Kind: api.AC, Arity: 3},
		{Name: "", Kind: api.Free}, acu("r", "p"), acu("p", "p"),
	}
}

// signatures goes through all signatures of the pool's symbols that have at most so many.
func signatures(most int) iter.Seq[api.Signature] {
	return func(yield func(api.Signature) bool) {
		symbols := pool()
		var grow func(s api.Signature) bool
		grow = func(s api.Signature) bool {
			if !yield(s) {
				return false
			}
			if len(s) == most {
				return true
			}
			for _, x := range symbols {
				if !grow(append(slices.Clone(s), x)) {
					return false
				}
			}
			return true
		}
		grow(nil)
	}
}

// symbolErrors is the document's words on one symbol, said again: the errors that apply, by their order.
func symbolErrors(s api.Signature, at int) []api.Errno {
	x := s[at]
	var l []api.Errno
	twice, unit := false, false
	for _, y := range s[:at] {
		twice = twice || y.Name == x.Name
		unit = unit || y.Name == x.Unit && y.Kind == api.Free && y.Arity == 0
	}
	if twice || !sig.Name(x.Name) {
		l = append(l, api.ErrSigName)
	}
	if x.Kind < api.Free || x.Kind > api.ACU {
		l = append(l, api.ErrSigKind)
	}
	if x.Kind == api.Free && (x.Arity < 0 || x.Arity > 4) || x.Kind != api.Free && x.Arity != 2 {
		l = append(l, api.ErrSigArity)
	}
	if x.Kind == api.ACU && !unit || x.Kind != api.ACU && x.Unit != "" {
		l = append(l, api.ErrSigUnit)
	}
	return l
}

func TestCheckOfAllSmallSignatures(t *testing.T) {
	right := 0
	for s := range signatures(4) {
		wantE, wantAt := api.OK, 0
		for at := range s {
			if l := symbolErrors(s, at); len(l) > 0 {
				wantE, wantAt = l[0], at
				break
			}
		}
		if wantE == api.OK {
			right++
		}
		if e, at := sig.Check(s); e != wantE || at != wantAt {
			t.Fatalf("Check of %v = %d, %d; want %d, %d", s, e, at, wantE, wantAt)
		}
	}
	if right < 100 {
		t.Errorf("only %d of the signatures are right", right)
	}
}

// P1.1
func TestRightStaysRight(t *testing.T) {
	full := append(nullary(13), ac("p"), acu("q", "caa"), acu("r", "cam"))
	wantCheck(t, "16 symbols", full, api.OK, 0)
	list := []api.Signature{exampleSignature(), full}
	for s := range signatures(4) {
		list = append(list, s)
	}
	for _, s := range list {
		if e, _ := sig.Check(s); e != api.OK {
			continue
		}
		for n := len(s); n >= 0; n-- {
			wantCheck(t, "fewer symbols", s[:n], api.OK, 0)
			wantCheck(t, "Plain", sig.Plain(s[:n]), api.OK, 0)
		}
		if l := sig.Units(sig.Plain(s)); len(l) != 0 {
			t.Errorf("Plain of %v has units: %v", s, l)
		}
	}
}

// P1.2
func TestFindFindsEachAndNoOther(t *testing.T) {
	names := []string{"", "a", "b", "c", "f", "p", "q", "r", "X", "zz", strings.Repeat("a", 13)}
	for s := range signatures(4) {
		if e, _ := sig.Check(s); e != api.OK {
			continue
		}
		for i, x := range s {
			wantFind(t, s, x.Name, i, true)
		}
		for _, name := range names {
			at, ok := sig.Find(s, name)
			has := slices.ContainsFunc(s, func(x api.Symbol) bool { return x.Name == name })
			if ok != has || ok && s[at].Name != name || !ok && at != 0 {
				t.Errorf("Find of %q in %v = %d, %v", name, s, at, ok)
			}
		}
	}
}

// askAll asks everything of a signature, so that a test can tell whether anything came of it.
func askAll(s api.Signature) {
	sig.Check(s)
	sig.Find(s, "a")
	sig.Find(s, "")
	for sym := -1; sym <= len(s); sym++ {
		sig.Unit(s, sym)
	}
	sig.Units(s)
	sig.Plain(s)
}

// P3: what is handed in, and its spare room, stays as it was.
func TestHandedInStays(t *testing.T) {
	for _, s := range []api.Signature{exampleSignature(), wrongSignature(), nullary(17)} {
		room := make(api.Signature, len(s), len(s)+3)
		copy(room, s)
		for i := len(s); i < cap(room); i++ {
			room[:cap(room)][i] = acu("spare", "room")
		}
		was := slices.Clone(room[:cap(room)])
		askAll(room)
		if !slices.Equal(room[:cap(room)], was) {
			t.Errorf("changed: %v", room[:cap(room)])
		}
	}
}

// P3: what comes out is new memory, its spare room too.
func TestComesOutNew(t *testing.T) {
	room := append(make(api.Signature, 0, 8), exampleSignature()...)
	was := slices.Clone(room[:cap(room)])
	first, second := sig.Plain(room), sig.Plain(room)
	spoil := first[:cap(first)]
	for i := range spoil {
		spoil[i] = free("spoilt", 3)
	}
	if !slices.Equal(room[:cap(room)], was) {
		t.Errorf("Plain shares the argument's memory: %v", room[:cap(room)])
	}
	if !slices.Equal(second, sig.Plain(room)) {
		t.Errorf("two answers of Plain share memory: %v", second)
	}
	noUnits := exampleSignature()[:4]
	if p := sig.Plain(noUnits); &p[0] == &noUnits[0] {
		t.Error("Plain of a signature without units is the argument")
	}
	one, other := sig.Units(room), sig.Units(room)
	full := one[:cap(one)]
	for i := range full {
		full[i] = 77
	}
	if !slices.Equal(other, []int{1}) {
		t.Errorf("two answers of Units share memory: %v", other)
	}
	wantUnits(t, room, 1)
}

// P3: nothing is kept; an answer hangs on the arguments alone.
func TestNothingIsKept(t *testing.T) {
	s := exampleSignature()
	askAll(s)
	s[1].Name, s[4].Unit = "two", "two"
	wantFind(t, s, "one", 0, false)
	wantUnit(t, s, 4, 1, true)
	askAll(wrongSignature())
	wantCheck(t, "S", exampleSignature(), api.OK, 0)
	wantUnits(t, exampleSignature(), 1)
}
