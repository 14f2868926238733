package terms_test

import (
	"math"
	"slices"
	"strings"
	"testing"

	"amalgam/api"
	"amalgam/sig"
	"amalgam/terms"
)

func wantCheck(t *testing.T, what string, s api.Signature, x api.Term, want api.Errno) {
	t.Helper()
	if e := terms.Check(s, x); e != want {
		t.Errorf("Check of %s: %d; want %d", what, e, want)
	}
}

func TestCheckExamples(t *testing.T) {
	s := exampleSignature()
	wantCheck(t, "f(X, f(a, X))", s, exampleTerm(), api.OK)
	wantCheck(t, "f(X)", s, sy(f, v("X")), api.ErrTermsArgs)
	wantCheck(t, "the symbol 99", s, sy(99), api.ErrTermsSymbol)
	wantCheck(t, "the variable x", s, v("x"), api.ErrTermsVar)
}

func TestCheckNodes(t *testing.T) {
	s := exampleSignature()
	for n, want := range map[int]api.Errno{3: api.OK, 39: api.OK, 40: api.OK, 41: api.ErrTermsLong, 42: api.ErrTermsLong, 5000: api.ErrTermsLong} {
		wantCheck(t, "a row of nodes", s, row(n), want)
	}
	unary := api.Signature{{Name: "a", Kind: api.Free}, {Name: "g", Kind: api.Free, Arity: 1}}
	for n, want := range map[int]api.Errno{1: api.OK, 2: api.OK, 40: api.OK, 41: api.ErrTermsLong, 1 << 16: api.ErrTermsLong} {
		wantCheck(t, "a chain of nodes", unary, chain(n), want)
	}
}

// TestCheckLongFirst: the number of nodes comes ahead of all that is wrong with them, and those beneath a variable count.
func TestCheckLongFirst(t *testing.T) {
	s := exampleSignature()
	for _, first := range []api.Term{v("x"), sy(-1), sy(99), sy(f), under("X", 1)} {
		for _, rest := range []api.Term{v("_0"), sy(5)} {
			long, short := row(41), row(40)
			long.Args[0], short.Args[0] = first, first
			long.Args[39], short.Args[38] = rest, rest
			wantCheck(t, "41 nodes, wrong ones", s, long, api.ErrTermsLong)
			if e := terms.Check(s, short); e == api.OK || e == api.ErrTermsLong {
				t.Errorf("Check of 40 nodes, wrong ones: %d", e)
			}
		}
	}
	wantCheck(t, "a variable above 39 nodes", s, under("X", 0, row(39)), api.ErrTermsVar)
	wantCheck(t, "a variable above 40 nodes", s, under("X", 0, row(40)), api.ErrTermsLong)
	wantCheck(t, "no variable above 40 nodes", s, under("x", -1, row(40)), api.ErrTermsLong)
}

// TestCheckEndsEarly: a term that is much longer than it may be costs no more; this one has no end.
func TestCheckEndsEarly(t *testing.T) {
	around := make([]api.Term, 1)
	around[0] = sy(one, around...)
	around[0].Args = around
	wantCheck(t, "a term without an end", exampleSignature(), around[0], api.ErrTermsLong)
	t40 := v("X")
	for range 40 {
		t40 = sy(f, t40, t40)
	}
	wantCheck(t, "2^41 - 1 nodes", exampleSignature(), t40, api.ErrTermsLong)
}

func TestCheckVariables(t *testing.T) {
	s := exampleSignature()
	for _, name := range []string{"X", "Xy2", "_1", "_19", "Abcdefghijkl", "_12345678901"} {
		wantCheck(t, name, s, v(name), api.OK)
		wantCheck(t, name+" within", s, sy(f, sy(a), v(name)), api.OK)
		wantCheck(t, name+" with the Sym 1", s, under(name, 1), api.ErrTermsVar)
		wantCheck(t, name+" with the Sym -1", s, under(name, -1), api.ErrTermsVar)
		wantCheck(t, name+" with the Sym 99", s, under(name, 99), api.ErrTermsVar)
		wantCheck(t, name+" with an argument", s, under(name, 0, v("X")), api.ErrTermsVar)
		wantCheck(t, name+" with a wrong argument", s, under(name, 0, sy(99)), api.ErrTermsVar)
		wantCheck(t, name+" with an empty list", s, api.Term{Var: name, Args: []api.Term{}}, api.OK)
	}
	for _, name := range []string{"x", "_", "_0", "_01", "_x", " ", "X ", "X_", "1", "Xé", "\xff", "\x00", "Abcdefghijklm", "_123456789012", strings.Repeat("X", 1<<16)} {
		wantCheck(t, name[:min(len(name), 20)], s, v(name), api.ErrTermsVar)
		wantCheck(t, "it within", s, sy(f, sy(a), v(name)), api.ErrTermsVar)
	}
}

func TestCheckSymbols(t *testing.T) {
	s := exampleSignature()
	s[4] = api.Symbol{Name: "b", Kind: api.Free}
	for sym, want := range map[int]api.Errno{
		-1: api.ErrTermsSymbol, 0: api.OK, len(s) - 1: api.OK, len(s): api.ErrTermsSymbol, len(s) + 1: api.ErrTermsSymbol,
		math.MinInt: api.ErrTermsSymbol, math.MaxInt: api.ErrTermsSymbol,
	} {
		wantCheck(t, "a symbol", s, sy(sym), want)
		wantCheck(t, "a symbol within", s, sy(f, sy(a), sy(sym)), want)
	}
	wantCheck(t, "a symbol of the spare room", s[:4], sy(4), api.ErrTermsSymbol)
	wantCheck(t, "no such symbol, with arguments", s, sy(99, v("x")), api.ErrTermsSymbol)
}

func TestCheckArguments(t *testing.T) {
	s := exampleSignature()
	s = append(s, api.Symbol{Name: "g", Kind: api.Free, Arity: 4}, api.Symbol{Name: "h", Kind: api.Free, Arity: 1})
	for sym, x := range s {
		for n := range 8 {
			want := api.OK
			if x.Kind == api.Free && n != x.Arity || x.Kind != api.Free && n < 2 {
				want = api.ErrTermsArgs
			}
			wantCheck(t, x.Name, s, sy(sym, slices.Repeat([]api.Term{v("X")}, n)...), want)
			wantCheck(t, x.Name+" within", s, sy(plus, v("X"), sy(sym, slices.Repeat([]api.Term{v("X")}, n)...)), want)
		}
	}
	wantCheck(t, "plus of 39", s, row(40), api.OK)
}

func TestCheckByAnySignature(t *testing.T) {
	for _, none := range []api.Signature{nil, {}} {
		wantCheck(t, "a variable, without symbols", none, v("X"), api.OK)
		wantCheck(t, "a wrong variable, without symbols", none, v("x"), api.ErrTermsVar)
		wantCheck(t, "the symbol 0, without symbols", none, sy(0), api.ErrTermsSymbol)
		wantCheck(t, "the symbol -1, without symbols", none, sy(-1), api.ErrTermsSymbol)
		wantCheck(t, "41 nodes, without symbols", none, row(41), api.ErrTermsLong)
	}
	wrong := api.Signature{
		{Name: "", Kind: 0, Arity: 7}, {Name: "X", Kind: api.Free, Arity: -1}, {Name: "X", Kind: api.Free, Arity: 6},
		{Name: "p", Kind: api.AC, Arity: 5}, {Name: "q", Kind: api.ACU, Arity: 0, Unit: "zz"}, {Name: "r", Kind: -4},
	}
	if e, _ := sig.Check(wrong); e == api.OK {
		t.Fatal("the signature is right")
	}
	for sym := range wrong {
		for n := range 8 {
			want := api.OK
			if sym == 1 || sym == 2 && n != 6 || n < 2 {
				want = api.ErrTermsArgs
			}
			wantCheck(t, "a symbol of a wrong signature", wrong, sy(sym, slices.Repeat([]api.Term{v("X")}, n)...), want)
		}
	}
	wantCheck(t, "a symbol of a long signature", make(api.Signature, 1000), sy(999, v("X"), v("X")), api.OK)
	wantCheck(t, "a symbol behind a long signature", make(api.Signature, 1000), sy(1000, v("X"), v("X")), api.ErrTermsSymbol)
}

func TestCheckFirstNode(t *testing.T) {
	s := exampleSignature()
	for _, c := range []struct {
		what string
		t    api.Term
		want api.Errno
	}{
		{"a wrong variable ahead of no symbol", sy(f, v("x"), sy(9)), api.ErrTermsVar},
		{"no symbol ahead of a wrong variable", sy(f, sy(9), v("x")), api.ErrTermsSymbol},
		{"a node ahead of its arguments", sy(f, v("x")), api.ErrTermsArgs},
		{"arguments ahead of what is behind", sy(f, sy(plus, v("X"), v("x")), sy(9)), api.ErrTermsVar},
		{"a deep one ahead of a high one", sy(f, sy(f, sy(a), sy(plus, sy(a))), v("x")), api.ErrTermsArgs},
		{"a symbol ahead of its arguments' number", sy(9, v("x")), api.ErrTermsSymbol},
		{"a variable that has all errors", under("x", 9, v("X")), api.ErrTermsVar},
		{"a variable with a Sym that is none", under("X", -1), api.ErrTermsVar},
		{"behind a right one", sy(f, exampleTerm(), sy(-1)), api.ErrTermsSymbol},
	} {
		wantCheck(t, c.what, s, c.t, c.want)
	}
}

// nodeError is the document's words on one node, said again.
func nodeError(s api.Signature, x api.Term) api.Errno {
	if x.Var != "" {
		if sig.Var(x.Var) && x.Sym == 0 && len(x.Args) == 0 {
			return api.OK
		}
		return api.ErrTermsVar
	}
	for i, y := range s {
		if i != x.Sym {
			continue
		}
		if y.Kind == api.Free && len(x.Args) == y.Arity || y.Kind != api.Free && len(x.Args) > 1 {
			return api.OK
		}
		return api.ErrTermsArgs
	}
	return api.ErrTermsSymbol
}

func TestCheckOfManyTerms(t *testing.T) {
	seen := map[api.Errno]int{}
	full := exampleSignature()
	for _, x := range manyTerms(6000) {
		for _, s := range []api.Signature{full, full[:3], nil} {
			want := api.OK
			l := allPlaces(x)
			for _, p := range l {
				if want = nodeError(s, p.x); want != api.OK {
					break
				}
			}
			if len(l) > 40 {
				want = api.ErrTermsLong
			}
			seen[want]++
			wantCheck(t, written(x), s, x, want)
		}
	}
	for _, e := range []api.Errno{api.OK, api.ErrTermsVar, api.ErrTermsSymbol, api.ErrTermsArgs, api.ErrTermsLong} {
		if seen[e] < 100 {
			t.Errorf("only %d terms are answered with %d", seen[e], e)
		}
	}
}
