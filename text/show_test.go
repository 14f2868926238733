package text_test

import (
	"strings"
	"testing"

	"amalgam/api"
	"amalgam/terms"
	"amalgam/text"
)

func TestShow(t *testing.T) {
	s := exampleSignature()
	for _, c := range []struct {
		x    api.Term
		want string
	}{
		{v("X"), "X"},
		{v("_12"), "_12"},
		{sy(a), "a"},
		{api.Term{Args: []api.Term{}}, "a"},
		{sy(f, v("X"), sy(a)), "f(X,a)"},
		{sy(f, sy(f, sy(a), v("X")), sy(one)), "f(f(a,X),one)"},
		{sy(plus, sy(one), v("X"), sy(times, sy(a), sy(one)), v("X")), "plus(one,X,times(a,one),X)"},
	} {
		if got := text.Show(s, c.x); got != c.want {
			t.Errorf("Show: %q; want %q", got, c.want)
		}
	}
}

func TestShowEquation(t *testing.T) {
	s := exampleSignature()
	for _, c := range []struct {
		q    api.Equation
		want string
	}{
		{api.Equation{L: v("X"), R: sy(a)}, "X = a"},
		{api.Equation{L: sy(a), R: v("X")}, "a = X"},
		{api.Equation{L: sy(f, v("X"), sy(a)), R: sy(plus, sy(a), sy(a), v("_1"))}, "f(X,a) = plus(a,a,_1)"},
		{api.Equation{}, "a = a"},
	} {
		if got := text.ShowEquation(s, c.q); got != c.want {
			t.Errorf("ShowEquation: %q; want %q", got, c.want)
		}
	}
}

func TestShowBinds(t *testing.T) {
	s := exampleSignature()
	for _, c := range []struct {
		l    []api.Bind
		want string
	}{
		{nil, ""},
		{[]api.Bind{}, ""},
		{[]api.Bind{bind("X", sy(a))}, "X -> a"},
		{[]api.Bind{bind("Y", v("X")), bind("X", sy(f, v("X"), sy(a))), bind("Y", sy(one))}, "Y -> X, X -> f(X,a), Y -> one"},
	} {
		if got := text.ShowBinds(s, c.l); got != c.want {
			t.Errorf("ShowBinds: %q; want %q", got, c.want)
		}
	}
}

// readAgain: P5.1 for a term, in each thing that is written.
func readAgain(t *testing.T, s api.Signature, x api.Term) {
	t.Helper()
	in := text.Show(s, x)
	if in != shown(s, x) || len(in) > 800 {
		t.Fatalf("Show: %q; want %q", in, shown(s, x))
	}
	wantTerm(t, s, in, x)
	readEquationAgain(t, s, api.Equation{L: x, R: v("X")})
	readEquationAgain(t, s, api.Equation{L: v("X"), R: x})
	readBindsAgain(t, s, []api.Bind{bind("X", x)})
	if t.Failed() {
		t.FailNow()
	}
}

func readEquationAgain(t *testing.T, s api.Signature, q api.Equation) {
	t.Helper()
	in := text.ShowEquation(s, q)
	if in != shownEquation(s, q) {
		t.Fatalf("ShowEquation: %q; want %q", in, shownEquation(s, q))
	}
	if len(in) > 800 {
		wantFaults(t, asEquation, s, []fault{{in, api.ErrTextLong, 0}})
		return
	}
	wantEquation(t, s, in, q.L, q.R)
}

func readBindsAgain(t *testing.T, s api.Signature, l []api.Bind) {
	t.Helper()
	in := text.ShowBinds(s, l)
	if in != shownBinds(s, l) {
		t.Fatalf("ShowBinds: %q; want %q", in, shownBinds(s, l))
	}
	if len(in) > 800 {
		wantFaults(t, asBinds, s, []fault{{in, api.ErrTextLong, 0}})
		return
	}
	wantBinds(t, s, in, l...)
}

// smallTerms are all right terms of at most n nodes with a few leaves.
func smallTerms(s api.Signature, n int) []api.Term {
	bySize := make([][]api.Term, n+1)
	bySize[1] = []api.Term{v("X"), v("_1")}
	for sym, x := range s {
		if x.Kind == api.Free && x.Arity == 0 {
			bySize[1] = append(bySize[1], sy(sym))
		}
	}
	all := bySize[1]
	for size := 2; size <= n; size++ {
		for _, l := range rows(bySize, size-1) {
			for sym, x := range s {
				if x.Kind == api.Free && x.Arity == len(l) || x.Kind != api.Free && len(l) > 1 {
					bySize[size] = append(bySize[size], sy(sym, l...))
				}
			}
		}
		all = append(all, bySize[size]...)
	}
	return all
}

// rows are all rows of terms with so many nodes in all.
func rows(bySize [][]api.Term, nodes int) [][]api.Term {
	if nodes == 0 {
		return [][]api.Term{nil}
	}
	var l [][]api.Term
	for first := 1; first <= nodes; first++ {
		for _, rest := range rows(bySize, nodes-first) {
			for _, x := range bySize[first] {
				l = append(l, append([]api.Term{x}, rest...))
			}
		}
	}
	return l
}

// P5.1 (T8)
func TestThereAndBack(t *testing.T) {
	for _, s := range signatures() {
		for _, x := range smallTerms(s, 5) {
			readAgain(t, s, x)
		}
		m := newMaker(71)
		sizes, longs := [41]int{}, 0
		for range 4000 {
			x := m.right(s, 1+m.Intn(40))
			if e := terms.Check(s, x); e != api.OK {
				t.Fatalf("%s is not right: %d", written(x), e)
			}
			sizes[terms.Size(x)]++
			readAgain(t, s, x)
			q, l := m.equation(s, 40), m.binds(s, 40)
			readEquationAgain(t, s, q)
			readBindsAgain(t, s, l)
			if len(shownBinds(s, l)) > 800 {
				longs++
			}
		}
		if len(s) > 0 && (sizes[40] < 5 || sizes[39] < 5 || longs < 1) {
			t.Errorf("%d terms of 40 nodes, %d of 39, %d long texts", sizes[40], sizes[39], longs)
		}
	}
}

// TestTheLongestTerms: a single term has at most MaxText bytes, whatever its names are.
func TestTheLongestTerms(t *testing.T) {
	s := wideSignature()
	s[5].Name = "z" + longName[1:]
	deep := v(longNumber)
	for range 39 {
		deep = sy(0, deep)
	}
	if n := len(text.Show(s, deep)); n != 558 {
		t.Errorf("%d bytes", n)
	}
	readAgain(t, s, deep)
	pair := v(longVar)
	for range 19 {
		pair = sy(5, v(longVar), pair)
	}
	readAgain(t, s, pair)
	leaves := make([]api.Term, 39)
	for i := range leaves {
		leaves[i] = v(longVar)
	}
	readAgain(t, s, sy(5, leaves...))
	for _, x := range []api.Term{deep, pair, sy(5, leaves...)} {
		readEquationAgain(t, s, api.Equation{L: x, R: x})
		readBindsAgain(t, s, []api.Bind{bind("X", x), bind(longVar, x)})
	}
}

// TestTextsAtTheLimit: what is written of 800 bytes is read; one byte more, and it is not.
func TestTextsAtTheLimit(t *testing.T) {
	s := exampleSignature()
	row := func(name string) api.Term {
		l := make([]api.Term, 39)
		for i := range l {
			l[i] = v(name)
		}
		return sy(plus, l...)
	}
	left := row(longVar[:9]) // 4 + 2 + 38 + 39 * 9 = 395
	for _, c := range []struct{ long, want int }{{12, 800}, {13, 801}} {
		right := row("X2345678") // 356
		extra := 800 - 395 - 3 - 356 + (c.long - 12)
		for i := range right.Args {
			n := min(4, extra)
			right.Args[i].Var += "abcd"[:n]
			extra -= n
		}
		q := api.Equation{L: left, R: right}
		if n := len(text.ShowEquation(s, q)); n != c.want || terms.Check(s, left) != api.OK || terms.Check(s, right) != api.OK {
			t.Fatalf("%d bytes", n)
		}
		readEquationAgain(t, s, q)
		// " = " and "X -> ", ", ", "Y -> " differ by nine bytes.
		for range 9 {
			at := len(left.Args) - 1
			for len(left.Args[at].Var) == 1 {
				at--
			}
			left.Args[at].Var = left.Args[at].Var[:len(left.Args[at].Var)-1]
		}
		l := []api.Bind{bind("X", left), bind("Y", right)}
		if n := len(text.ShowBinds(s, l)); n != c.want {
			t.Fatalf("%d bytes", n)
		}
		readBindsAgain(t, s, l)
		left = row(longVar[:9])
	}
}

func TestShowOfGreatTerms(t *testing.T) {
	s := exampleSignature()
	const n = 1<<16 - 2
	deep := v("X")
	for range n {
		deep = sy(f, deep)
	}
	if got := text.Show(s, deep); got != strings.Repeat("f(", n)+"X"+strings.Repeat(")", n) {
		t.Errorf("a deep term: %d bytes", len(got))
	}
	if got := text.ShowEquation(s, api.Equation{L: deep, R: deep}); len(got) != 2*(3*n+1)+3 {
		t.Errorf("an equation of deep terms: %d bytes", len(got))
	}
	leaves := make([]api.Term, n)
	for i := range leaves {
		leaves[i] = sy(one)
	}
	want := "plus(" + strings.TrimSuffix(strings.Repeat("one,", n), ",") + ")"
	if got := text.Show(s, sy(plus, leaves...)); got != want {
		t.Errorf("a wide term: %d bytes", len(got))
	}
	many := make([]api.Bind, n)
	for i := range many {
		many[i] = bind("X", sy(a))
	}
	if got := text.ShowBinds(s, many); got != strings.TrimSuffix(strings.Repeat("X -> a, ", n), ", ") {
		t.Errorf("many binds: %d bytes", len(got))
	}
}
