package subst_test

import (
	"slices"
	"strings"
	"testing"

	"amalgam/api"
	"amalgam/canon"
	"amalgam/sig"
	"amalgam/subst"
	"amalgam/terms"
)

func wantCheck(t *testing.T, what string, b []api.Bind, want api.Errno, place int) {
	t.Helper()
	if e, at := subst.Check(exampleSignature(), b); e != want || at != place {
		t.Errorf("Check of %s: %d, %d; want %d, %d", what, e, at, want, place)
	}
}

func TestCheckExamples(t *testing.T) {
	for _, c := range []struct {
		in   string
		want api.Errno
		at   int
	}{
		{"", api.OK, 0},
		{"X -> a", api.OK, 0},
		{"X -> X", api.ErrSubstVar, 0},
		{"Y -> a, X -> a", api.ErrSubstVar, 1},
		{"X -> plus(a,Y)", api.ErrSubstTerm, 0},
		{"X -> plus(Y,a)", api.OK, 0},
		{"X -> f(X,a)", api.OK, 0},
		{"X -> Y, Y -> X", api.OK, 0},
		{"X -> a, X -> a", api.ErrSubstVar, 1},
		{"X -> a, X -> one", api.ErrSubstVar, 1},
		{"X -> a, Y -> a, X -> a", api.ErrSubstVar, 2},
		{"X -> a, Y -> Y, Z -> a", api.ErrSubstVar, 1},
		{"X -> times(Y,one)", api.ErrSubstTerm, 0},
		{"X -> a, Y -> f(a,times(one,one))", api.ErrSubstTerm, 1},
		{"X -> plus(Y,plus(Y,a))", api.ErrSubstTerm, 0},
		{"X -> a, X2 -> a, Xa -> a, Y -> a, _1 -> a, _10 -> a, _2 -> a", api.OK, 0},
		{"X -> a, _10 -> a, _1 -> a", api.ErrSubstVar, 2},
		{"_9 -> a, _10 -> a", api.ErrSubstVar, 1},
		{"_1 -> a, X -> a", api.ErrSubstVar, 1},
		{"X2 -> a, X -> a", api.ErrSubstVar, 1},
		{"X -> _1, Y -> _1", api.OK, 0},
	} {
		wantCheck(t, c.in, bs(t, c.in), c.want, c.at)
	}
	wantCheck(t, "nothing", nil, api.OK, 0)
	wantCheck(t, "no binds", []api.Bind{}, api.OK, 0)
}

func TestCheckNames(t *testing.T) {
	for _, name := range []string{"", "x", "_", "_0", "_01", "X_", "Xä", " X", "1", "Abcdefghijklm", "_123456789012", "a", "->"} {
		wantCheck(t, name, []api.Bind{bind(name, sy(a))}, api.ErrSubstVar, 0)
		wantCheck(t, name, []api.Bind{bind("X", sy(a)), bind(name, sy(a))}, api.ErrSubstVar, 1)
		wantCheck(t, name, []api.Bind{bind(name, v(name))}, api.ErrSubstVar, 0)
	}
	for _, name := range []string{"A", "Z9", "Abcdefghijkl", "_1", "_12345678901"} {
		wantCheck(t, name, []api.Bind{bind(name, sy(a))}, api.OK, 0)
		wantCheck(t, name, []api.Bind{bind(name, v(name))}, api.ErrSubstVar, 0)
	}
}

func TestCheckNodes(t *testing.T) {
	for n, want := range map[int]api.Errno{3: api.OK, 40: api.OK, 41: api.OK, 399: api.OK, 400: api.OK, 401: api.ErrSubstGrown, 402: api.ErrSubstGrown, 5000: api.ErrSubstGrown} {
		wantCheck(t, "a sum", []api.Bind{bind("X", row(n))}, want, 0)
		wantCheck(t, "a sum behind another one", []api.Bind{bind("X", row(400)), bind("Y", row(n))}, want, len(strings.Repeat("1", int(want)/73)))
	}
	deep := func(n int) api.Term {
		x := v("Y")
		for terms.Size(x) < n {
			x = sy(f, sy(a), x)
		}
		return x
	}
	wantCheck(t, "a deep one of 399", []api.Bind{bind("X", deep(399))}, api.OK, 0)
	wantCheck(t, "a deep one of 401", []api.Bind{bind("X", deep(401))}, api.ErrSubstGrown, 0)
}

// badNodes are terms with a node that is not right.
func badNodes() []api.Term {
	return []api.Term{
		sy(-1), sy(5), sy(99), v("x"), v("_0"), {Var: "Y", Sym: 1}, {Var: "Y", Args: []api.Term{sy(a)}},
		sy(a, sy(a)), sy(f), sy(f, sy(a)), sy(f, sy(a), sy(a), sy(a)), sy(f, slices.Repeat([]api.Term{sy(a)}, 60)...),
		sy(plus), sy(plus, sy(a)), sy(times), sy(times, sy(a)), sy(a, slices.Repeat([]api.Term{sy(a)}, 4)...), sy(a, slices.Repeat([]api.Term{sy(a)}, 5)...),
	}
}

func TestCheckTermsThatAreNotRight(t *testing.T) {
	for _, x := range badNodes() {
		for _, y := range []api.Term{x, sy(f, sy(a), x), sy(f, x, sy(a)), sy(f, sy(f, sy(a), sy(f, sy(a), x)), sy(a)), sy(f, row(300), x)} {
			wantCheck(t, written(y), []api.Bind{bind("X", y)}, api.ErrSubstTerm, 0)
			wantCheck(t, written(y), []api.Bind{bind("X", sy(a)), bind("Y2", sy(a)), bind("Z", y), bind("Z", sy(a))}, api.ErrSubstTerm, 2)
		}
	}
}

// TestCheckEveryArity: the numbers of arguments that free symbols of each arity take, and those beside them.
func TestCheckEveryArity(t *testing.T) {
	var s api.Signature
	for n := range api.MaxArity + 1 {
		s = append(s, api.Symbol{Name: "f" + string(rune('0'+n)), Kind: api.Free, Arity: n})
	}
	for sym := range s {
		for n := range 50 {
			want := api.ErrSubstTerm
			if n == sym {
				want = api.OK
			}
			x := sy(sym, slices.Repeat([]api.Term{v("Y")}, n)...)
			if e, at := subst.Check(s, []api.Bind{bind("X", x)}); e != want || at != 0 {
				t.Errorf("%d arguments of f%d: %d, %d", n, sym, e, at)
			}
		}
	}
}

// TestCheckWhichIsTold: of two faults in one bind the one that stands first in the words; of two binds the first.
func TestCheckWhichIsTold(t *testing.T) {
	long, long2 := row(401), row(401)
	long2.Args[0] = sy(-1)
	unsorted := sy(plus, sy(a), v("Y"))
	wantCheck(t, "a wrong name, a long term", []api.Bind{bind("x", long)}, api.ErrSubstVar, 0)
	wantCheck(t, "a wrong name, a wrong term", []api.Bind{bind("x", sy(-1))}, api.ErrSubstVar, 0)
	wantCheck(t, "out of order, a long term", []api.Bind{bind("Y", sy(a)), bind("X", long)}, api.ErrSubstVar, 1)
	wantCheck(t, "twice, a term that is not canonical", []api.Bind{bind("X", sy(a)), bind("X", unsorted)}, api.ErrSubstVar, 1)
	wantCheck(t, "itself, not right", []api.Bind{bind("X", api.Term{Var: "X", Sym: 3})}, api.ErrSubstVar, 0)
	wantCheck(t, "itself, long", []api.Bind{bind("X", api.Term{Var: "X", Args: []api.Term{long}})}, api.ErrSubstVar, 0)
	wantCheck(t, "long and not right", []api.Bind{bind("X", long2)}, api.ErrSubstGrown, 0)
	wantCheck(t, "long beneath a variable", []api.Bind{bind("X", api.Term{Var: "Y", Args: []api.Term{row(400)}})}, api.ErrSubstGrown, 0)
	wantCheck(t, "not so long beneath a variable", []api.Bind{bind("X", api.Term{Var: "Y", Args: []api.Term{row(399)}})}, api.ErrSubstTerm, 0)
	wantCheck(t, "a wrong term ahead of a wrong name", []api.Bind{bind("X", unsorted), bind("x", sy(a))}, api.ErrSubstTerm, 0)
	wantCheck(t, "a long term ahead of a wrong one", []api.Bind{bind("X", long), bind("Y", sy(-1))}, api.ErrSubstGrown, 0)
	wantCheck(t, "a wrong term ahead of a long one", []api.Bind{bind("X", sy(-1)), bind("Y", long)}, api.ErrSubstTerm, 0)
	wantCheck(t, "right, a wrong term, a wrong name", []api.Bind{bind("X", sy(a)), bind("Y", unsorted), bind("Y", sy(a))}, api.ErrSubstTerm, 1)
}

// TestCheckNotCanonical: a long term that is not canonical, what a canonical form drops, and what is out of order deep inside.
func TestCheckNotCanonical(t *testing.T) {
	long := row(400)
	long.Args[200] = v("Y")
	wantCheck(t, "400 nodes out of order", []api.Bind{bind("X", long)}, api.ErrSubstTerm, 0)
	units := sy(times, slices.Repeat([]api.Term{sy(one)}, 399)...)
	wantCheck(t, "400 nodes, units", []api.Bind{bind("X", units)}, api.ErrSubstTerm, 0)
	units.Args = append(units.Args, sy(one))
	wantCheck(t, "401 nodes, units", []api.Bind{bind("X", units)}, api.ErrSubstGrown, 0)
	wantCheck(t, "itself, with a unit", bs(t, "X -> times(X,one)"), api.ErrSubstTerm, 0)
}

// TestCheckEndsEarly: a term that is much too long costs no more; this one has no end.
func TestCheckEndsEarly(t *testing.T) {
	around := make([]api.Term, 2)
	around[0] = sy(f, around...)
	around[1] = sy(f, around...)
	around[0].Args = around
	around[1].Args = around
	wantCheck(t, "no end", []api.Bind{bind("X", sy(f, around...))}, api.ErrSubstGrown, 0)
	if x, e := subst.Apply(exampleSignature(), nil, sy(f, around...)); e != api.ErrSubstGrown || !isZero(x) {
		t.Errorf("Apply to a term without an end: %d", e)
	}
	if x, e := subst.Apply(exampleSignature(), []api.Bind{bind("X", sy(f, around...))}, v("X")); e != api.ErrSubstGrown || !isZero(x) {
		t.Errorf("Apply of a term without an end: %d", e)
	}
}

// checked says Check's words again, each of them by itself.
func checked(s api.Signature, b []api.Bind) (api.Errno, int) {
	for i, x := range b {
		wrongNode := false
		for _, y := range terms.All(x.T) {
			if y.Var != "" {
				wrongNode = wrongNode || !sig.Var(y.Var) || y.Sym != 0 || len(y.Args) > 0
			} else if y.Sym < 0 || y.Sym >= len(s) {
				wrongNode = true
			} else if s[y.Sym].Kind == api.Free {
				wrongNode = wrongNode || len(y.Args) != s[y.Sym].Arity
			} else {
				wrongNode = wrongNode || len(y.Args) < 2
			}
		}
		if !sig.Var(x.Var) || i > 0 && strings.Compare(b[i-1].Var, x.Var) >= 0 || x.T.Var == x.Var {
			return api.ErrSubstVar, i
		}
		if terms.Size(x.T) > 400 {
			return api.ErrSubstGrown, i
		}
		if wrongNode || written(canon.Canon(s, x.T)) != written(x.T) {
			return api.ErrSubstTerm, i
		}
	}
	return api.OK, 0
}

func TestCheckOfMany(t *testing.T) {
	told := map[api.Errno]int{}
	for _, s := range signatures() {
		m := newMaker(11)
		for i := range 4000 {
			b := m.substitution(s, 10)
			if i%2 == 1 {
				b = m.spoiltBinds(s, b)
			}
			wantE, wantAt := checked(s, b)
			if e, at := subst.Check(s, b); e != wantE || at != wantAt {
				t.Fatalf("Check of %s: %d, %d; want %d, %d", writtenBinds(b), e, at, wantE, wantAt)
			}
			told[wantE]++
		}
	}
	for _, e := range []api.Errno{api.OK, api.ErrSubstVar, api.ErrSubstTerm, api.ErrSubstGrown} {
		if told[e] < 100 {
			t.Errorf("%d is told %d times alone", e, told[e])
		}
	}
}
