package subst_test

import (
	"maps"
	"slices"
	"strings"
	"testing"

	"amalgam/api"
	"amalgam/canon"
	"amalgam/subst"
	"amalgam/terms"
	"amalgam/text"
)

func TestComposeExamples(t *testing.T) {
	s := exampleSignature()
	for _, c := range [][3]string{
		{"X -> f(Y,Y)", "X -> a, Y -> a", "X -> f(a,a), Y -> a"},
		{"X -> Y", "Y -> X", "Y -> X"},
		{"", "", ""},
		{"", "X -> a, Y -> f(X,Y)", "X -> a, Y -> f(X,Y)"},
		{"X -> a, Y -> f(X,Y)", "", "X -> a, Y -> f(X,Y)"},
		{"X -> Y", "X -> Z, Y -> X", "Y -> X"},
		{"X -> Y", "X -> Z", "X -> Y"},
		{"X -> f(X,a)", "X -> a", "X -> f(a,a)"},
		{"X -> times(X,Y)", "Y -> one", "Y -> one"},
		{"X -> times(X,Y)", "X -> a, Y -> one", "X -> a, Y -> one"},
		{"X -> times(Y,Z)", "Y -> X, Z -> one", "Y -> X, Z -> one"},
		{"Y -> X", "A -> a, X -> Z, Z -> a", "A -> a, X -> Z, Y -> Z, Z -> a"},
		{"B -> X, D -> Y", "A -> a, C -> a, E -> a, X -> a", "A -> a, B -> a, C -> a, D -> Y, E -> a, X -> a"},
		{"_2 -> X", "_1 -> a, _10 -> a, _3 -> a, _9 -> a, X -> one", "X -> one, _1 -> a, _10 -> a, _2 -> one, _3 -> a, _9 -> a"},
		{"X -> plus(Y,Z)", "Y -> plus(Z,a), Z -> a", "X -> plus(Z,a,a), Y -> plus(Z,a), Z -> a"},
		{"X -> Y, Y -> X", "X -> Y, Y -> X", ""},
		{"X -> Y, Y -> X", "X -> a", "X -> Y, Y -> a"},
	} {
		got, e := subst.Compose(s, bs(t, c[0]), sorted(bs(t, c[1])))
		if e != api.OK || text.ShowBinds(s, got) != c[2] {
			t.Errorf("Compose of %s and %s: %s, %d; want %s", c[0], c[1], text.ShowBinds(s, got), e, c[2])
		}
	}
}

func sorted(b []api.Bind) []api.Bind {
	return slices.SortedFunc(slices.Values(b), func(x, y api.Bind) int { return strings.Compare(x.Var, y.Var) })
}

// TestComposeGrown: one Apply that is refused refuses all; b's own terms are not asked.
func TestComposeGrown(t *testing.T) {
	s := exampleSignature()
	b := []api.Bind{bind("X", row(200)), bind("Y", row(199))}
	grown := bind("B", sy(f, v("X"), v("X")))
	for _, first := range [][]api.Bind{
		{grown},
		{bind("A", sy(a)), grown},
		{grown, bind("C", sy(a))},
		{bind("A", v("Z")), bind("B", v("Y")), bind("C", grown.T), bind("D", sy(a))},
	} {
		if got, e := subst.Compose(s, first, b); e != api.ErrSubstGrown || len(got) != 0 {
			t.Errorf("Compose of %s: %d, %d binds", writtenBinds(first), e, len(got))
		}
	}
	got, e := subst.Compose(s, []api.Bind{bind("B", sy(f, v("X"), v("Y")))}, b)
	if e != api.OK {
		t.Errorf("400 nodes: %d", e)
	}
	wantBinds(t, "400 nodes", got, []api.Bind{bind("B", sy(f, row(200), row(199))), b[0], b[1]})
	// A dropped node counts where it is put in.
	if got, e := subst.Compose(s, []api.Bind{bind("B", sy(plus, v("X"), v("X")))}, b); e != api.ErrSubstGrown || len(got) != 0 {
		t.Errorf("401 nodes, 399 of them canonical: %d, %d binds", e, len(got))
	}
	got, e = subst.Compose(s, []api.Bind{bind("Z", row(400))}, []api.Bind{bind("Y", row(400))})
	if e != api.OK || len(got) != 2 {
		t.Errorf("400 nodes on both sides: %d, %d binds", e, len(got))
	}
}

// composed says Compose's words again, variable by variable.
func composed(s api.Signature, a, b []api.Bind) ([]api.Bind, bool) {
	inA, inB := map[string]api.Term{}, map[string]api.Term{}
	for _, x := range a {
		inA[x.Var] = x.T
	}
	for _, x := range b {
		inB[x.Var] = x.T
	}
	var l []api.Bind
	all := map[string]int{}
	for name := range maps.Keys(inA) {
		all[name] = 1
	}
	for name := range maps.Keys(inB) {
		all[name] = 1
	}
	for _, name := range slices.Sorted(maps.Keys(all)) {
		x, ok := inA[name]
		if !ok {
			l = append(l, bind(name, inB[name]))
			continue
		}
		y, ok := applied(s, b, x)
		if !ok {
			return nil, false
		}
		if y.Var != name {
			l = append(l, bind(name, y))
		}
	}
	return l, true
}

func wantComposed(t *testing.T, s api.Signature, a, b []api.Bind) bool {
	t.Helper()
	want, ok := composed(s, a, b)
	got, e := subst.Compose(s, a, b)
	if (e == api.OK) != ok || !ok && e != api.ErrSubstGrown || writtenBinds(got) != writtenBinds(want) {
		t.Fatalf("Compose of %s and %s: %s, %d; want %s", writtenBinds(a), writtenBinds(b), writtenBinds(got), e, writtenBinds(want))
	}
	if c, at := subst.Check(s, got); c != api.OK {
		t.Fatalf("Compose of %s and %s is no substitution: %d at %d of %s", writtenBinds(a), writtenBinds(b), c, at, writtenBinds(got))
	}
	return ok
}

func TestComposeOfMany(t *testing.T) {
	for _, s := range signatures() {
		m := newMaker(23)
		grown := 0
		for i := range 3000 {
			a, b := m.substitution(s, 8), m.substitution(s, 8)
			switch i % 4 {
			case 0:
				a, b = m.wideSubstitution(s, 30), m.wideSubstitution(s, 100)
			case 1:
				a, b = m.substitution(s, 1), m.substitution(s, 1)
			}
			if !wantComposed(t, s, a, b) {
				grown++
			}
		}
		if grown < 20 || grown > 1000 {
			t.Errorf("%d were refused", grown)
		}
	}
}

func TestRestrict(t *testing.T) {
	b := bs(t, "X -> plus(Y,a), Y -> f(X,X), Z -> a, _1 -> Z")
	for _, c := range []struct {
		vars []string
		want string
	}{
		{nil, ""},
		{[]string{}, ""},
		{[]string{"A", "x", "", "XY", "_10", "a"}, ""},
		{[]string{"Y"}, "Y -> f(X,X)"},
		{[]string{"Z", "X"}, "X -> plus(Y,a), Z -> a"},
		{[]string{"Y", "Y", "_1", "Y"}, "Y -> f(X,X), _1 -> Z"},
		{[]string{"_1", "Z", "A", "Y", "X"}, "X -> plus(Y,a), Y -> f(X,X), Z -> a, _1 -> Z"},
	} {
		wantBinds(t, "Restrict to "+strings.Join(c.vars, " "), subst.Restrict(b, c.vars), bs(t, c.want))
	}
	wantBinds(t, "Restrict of nothing", subst.Restrict(nil, []string{"X"}), nil)
}

// TestRestrictOfAnyBinds: they stay as they are, in their order, as often as they stand there.
func TestRestrictOfAnyBinds(t *testing.T) {
	odd := api.Term{Var: "x", Sym: -4, Args: []api.Term{sy(99, sy(plus)), {Var: "_0", Sym: 7}}}
	b := []api.Bind{bind("Y", odd), bind("", sy(a)), bind("X", v("X")), bind("Y", row(500)), bind("x", tm(t, "plus(a,X,one,times(one,one))")), bind("Y", odd)}
	wantBinds(t, "Y", subst.Restrict(b, []string{"Y"}), []api.Bind{b[0], b[3], b[5]})
	wantBinds(t, "no name, x", subst.Restrict(b, []string{"x", ""}), []api.Bind{b[1], b[4]})
	wantBinds(t, "X", subst.Restrict(b, []string{"X"}), b[2:3])
	wantBinds(t, "all", subst.Restrict(b, []string{"X", "Y", "", "x"}), b)
}

func TestSame(t *testing.T) {
	for _, c := range []struct {
		one, other string
		want       bool
	}{
		{"", "", true},
		{"X -> a", "X -> a", true},
		{"X -> a", "", false},
		{"", "X -> a", false},
		{"X -> a", "X -> a, Y -> a", false},
		{"X -> a, Y -> a", "X -> a", false},
		{"X -> a", "Y -> a", false},
		{"X -> a", "X -> one", false},
		{"X -> a, Y -> a", "X -> a, Z -> a", false},
		{"X -> a, Y -> a", "X -> one, Y -> a", false},
		{"X -> plus(a,Y)", "X -> plus(Y,a)", false},
		{"X -> times(a,one)", "X -> a", false},
		{"X -> plus(a,Y)", "X -> plus(a,Y)", true},
		{"X -> f(Y,a), Y -> Z, Z -> f(X,f(a,a))", "X -> f(Y,a), Y -> Z, Z -> f(X,f(a,a))", true},
		{"X -> f(Y,a), Y -> Z, Z -> f(X,f(a,a))", "X -> f(Y,a), Y -> Z, Z -> f(X,f(a,one))", false},
		{"Y -> a, X -> a", "X -> a, Y -> a", false},
		{"Y -> a, Y -> a", "Y -> a, Y -> a", true},
	} {
		if got := subst.Same(bs(t, c.one), bs(t, c.other)); got != c.want {
			t.Errorf("Same of %s and %s: %v", c.one, c.other, got)
		}
	}
}

// TestSameOfAnyBinds: what terms' Same says of the terms, whatever they are.
func TestSameOfAnyBinds(t *testing.T) {
	s := exampleSignature()
	odd := []api.Term{v("X"), {Var: "X", Sym: 3, Args: []api.Term{sy(a)}}, sy(-1), sy(-1, sy(99)), sy(99), sy(plus), row(500), row(501), {}, v("x")}
	for _, x := range odd {
		for _, y := range odd {
			for _, names := range [][2]string{{"X", "X"}, {"", ""}, {"x", "X"}, {"x", "x"}} {
				got := subst.Same([]api.Bind{bind("Q", sy(a)), bind(names[0], x)}, []api.Bind{bind("Q", sy(a)), bind(names[1], y)})
				if want := names[0] == names[1] && terms.Same(x, y); got != want {
					t.Errorf("Same of %v: %s and %s: %v", names, written(x), written(y), got)
				}
			}
		}
	}
	if !subst.Same([]api.Bind{}, nil) || !subst.Same(nil, []api.Bind{}) {
		t.Error("Same of no binds")
	}
	m := newMaker(29)
	for range 300 {
		b := m.substitution(s, 9)
		c := m.substitution(s, 9)
		if !subst.Same(b, subst.Restrict(b, varNames())) || subst.Same(b, c) != (writtenBinds(b) == writtenBinds(c)) {
			t.Fatalf("Same of %s and %s", writtenBinds(b), writtenBinds(c))
		}
	}
	if canon.Equal(s, tm(t, "plus(a,X)"), tm(t, "plus(X,a)")) && subst.Same(bs(t, "Y -> plus(a,X)"), bs(t, "Y -> plus(X,a)")) {
		t.Error("Same of terms that are equal alone")
	}
}
