package derive_test

import (
	"slices"
	"testing"

	"amalgam/api"
	"amalgam/canon"
	"amalgam/derive"
	"amalgam/terms"
)

// wantDown: steps that Play makes the canonical form of.
func wantDown(t *testing.T, s api.Signature, x, want api.Term) []api.Step {
	t.Helper()
	l := derive.Down(s, x)
	wantPlay(t, s, x, l, want)
	return l
}

func TestDown(t *testing.T) {
	s := exampleSignature()
	for _, c := range [][2]string{
		{"plus(a,X)", "plus(X,a)"},
		{"plus(a,plus(X,a))", "plus(X,a,a)"},
		{"plus(plus(plus(a,Y),X),plus(X,plus(Y,a)))", "plus(X,X,Y,Y,a,a)"},
		{"plus(plus(plus(plus(plus(plus(a,one),f(X,X)),X),Y),Z),_1)", "plus(X,Y,Z,_1,a,one,f(X,X))"},
		{"times(one,X)", "X"},
		{"times(X,one)", "X"},
		{"times(one,one)", "one"},
		{"times(one,one,one,one)", "one"},
		{"times(times(one,one),times(one,times(one,one)))", "one"},
		{"times(one,times(one,X),one)", "X"},
		{"times(X,times(one,one),Y)", "times(X,Y)"},
		{"times(Y,times(one,X),one)", "times(X,Y)"},
		{"plus(X,one)", "plus(X,one)"},
		{"plus(one,X)", "plus(X,one)"},
		{"plus(a,times(one,plus(X,a)))", "plus(X,a,a)"},
		{"plus(a,times(plus(X,a),one))", "plus(X,a,a)"},
		{"plus(times(one,plus(a,X)),times(plus(Y,a),one,one))", "plus(X,Y,a,a)"},
		{"times(plus(times(X,one),times(one,one)),one)", "plus(X,one)"},
		{"plus(a,times(one,plus(X,times(one,plus(Y,times(one,a))))))", "plus(X,Y,a,a)"},
		{"f(plus(a,X),times(one,f(times(a,X),one)))", "f(plus(X,a),f(times(X,a),one))"},
		{"f(one,times(one,one))", "f(one,one)"},
		{"plus(f(plus(a,X),a),f(plus(X,a),X))", "plus(f(plus(X,a),X),f(plus(X,a),a))"},
		{"plus(f(a,times(Y,one)),f(a,X))", "plus(f(a,X),f(a,Y))"},
		{"times(plus(Y,X),times(X,one,Y),f(X,X))", "times(X,Y,f(X,X),plus(X,Y))"},
	} {
		want := tm(t, c[1])
		if !canon.Is(s, want) {
			t.Fatalf("%s is not canonical", c[1])
		}
		wantDown(t, s, tm(t, c[0]), want)
	}
	// One unit of two symbols, one symbol's sum within the other's.
	wide := wideSignature()
	for _, c := range [][2]string{
		{"and(both(no,no),X)", "X"},
		{"and(both(no,X),both(Y,no),no)", "and(X,Y)"},
		{"both(and(no,both(Y,X)),and(no,no))", "both(X,Y)"},
		{"sum(zero,and(no,sum(Y,and(sum(X,zero),no))))", "sum(X,Y)"},
		{"or(Y,or(X,Y),X)", "or(X,X,Y,Y)"},
		{"g(sum(and(no,zero),and(no,zero)))", "g(zero)"},
		{"and(sum(zero,no),X)", "X"},
	} {
		wantDown(t, wide, read(t, wide, c[0]), read(t, wide, c[1]))
	}
}

func TestDownOfCanonical(t *testing.T) {
	s := exampleSignature()
	for _, in := range []string{"X", "a", "one", "f(one,one)", "f(a,X)", "plus(X,X)", "plus(X,Y,a,one)", "times(X,a)", "plus(one,one)", "times(X,plus(X,a))", "plus(a,times(X,X))"} {
		if l := derive.Down(s, tm(t, in)); len(l) != 0 {
			t.Errorf("Down of %s: %s", in, writtenSteps(l))
		}
	}
	for _, s := range signatures() {
		for _, x := range slices.Concat(smallTerms(s, 2, 4), manyTerms(s, 600)) {
			y := canon.Canon(s, x)
			if l := derive.Down(s, y); len(l) != 0 {
				t.Fatalf("Down of %s: %s", written(y), writtenSteps(l))
			}
			if l := derive.Down(s, x); len(l) == 0 && written(x) != written(y) {
				t.Fatalf("no steps from %s", written(x))
			}
		}
	}
}

func TestDownOfManyTerms(t *testing.T) {
	for i, s := range signatures() {
		for _, x := range slices.Concat(smallTerms(s, 2, []int{5, 4, 6}[i]), manyTerms(s, 2000)) {
			wantDown(t, s, x, canon.Canon(s, x))
			if t.Failed() {
				return
			}
		}
	}
}

// wantWay: there are steps, and Play makes the one term of the other.
func wantWay(t *testing.T, s api.Signature, x, y api.Term) {
	t.Helper()
	l, ok := derive.Way(s, x, y)
	if !ok {
		t.Errorf("no way from %s to %s", written(x), written(y))
	}
	wantPlay(t, s, x, l, y)
}

func wantNoWay(t *testing.T, s api.Signature, x, y api.Term) {
	t.Helper()
	if l, ok := derive.Way(s, x, y); ok || len(l) != 0 {
		t.Errorf("Way from %s to %s: %s, %v", written(x), written(y), writtenSteps(l), ok)
	}
}

func TestWay(t *testing.T) {
	s := exampleSignature()
	for _, c := range [][2]string{
		{"X", "X"},
		{"plus(X,a)", "plus(a,X)"},
		{"plus(a,plus(X,a))", "plus(plus(a,a),X)"},
		{"times(one,one)", "times(one,times(one,one))"},
		{"X", "times(X,one)"},
		{"one", "times(times(one,one),one)"},
		{"plus(X,a)", "plus(times(one,a),times(X,one))"},
		{"f(times(one,X),plus(a,X))", "times(f(X,plus(X,a)),one)"},
		{"plus(a,times(one,plus(X,a)))", "times(plus(X,times(a,one),a),one)"},
	} {
		x, y := tm(t, c[0]), tm(t, c[1])
		wantWay(t, s, x, y)
		wantWay(t, s, y, x)
		wantWay(t, s, x, x)
		wantWay(t, s, y, y)
	}
	for _, c := range [][2]string{
		{"X", "Y"}, {"X", "a"}, {"plus(a,plus(X,a))", "plus(X,a)"}, {"f(X,a)", "f(a,X)"}, {"plus(X,one)", "X"}, {"plus(X,a)", "times(X,a)"},
		{"times(one,X)", "times(one,a)"}, {"plus(X,X)", "plus(X,X,X)"}, {"plus(X,times(Y,a))", "times(plus(X,Y),a)"}, {"one", "a"},
	} {
		wantNoWay(t, s, tm(t, c[0]), tm(t, c[1]))
		wantNoWay(t, s, tm(t, c[1]), tm(t, c[0]))
	}
}

func TestWayOfManyTerms(t *testing.T) {
	for i, s := range signatures() {
		m := newMaker(int64(i) + 13)
		ways := 0
		for range 1500 {
			x := m.right(s, 1+m.Intn(20))
			y, z := m.stirred(s, x, 1+m.Intn(20)), m.right(s, 1+m.Intn(4))
			wantWay(t, s, x, y)
			wantWay(t, s, canon.Canon(s, x), y)
			wantWay(t, s, y, canon.Canon(s, x))
			wantWay(t, s, y, y)
			if canon.Equal(s, x, z) {
				ways++
				wantWay(t, s, x, z)
			} else {
				wantNoWay(t, s, x, z)
				wantNoWay(t, s, z, y)
			}
			if t.Failed() {
				return
			}
		}
		if ways < 10 || ways > 1400 {
			t.Errorf("signature %d: %d of 1500 terms were Equal", i, ways)
		}
	}
}

// TestTheGreatestTerms: sums of MaxGrown nodes, as proofs have them.
func TestTheGreatestTerms(t *testing.T) {
	s := exampleSignature()
	m := newMaker(17)
	for _, sym := range []int{plus, times} {
		wide, deep := sy(sym), m.leaf(s)
		for terms.Size(wide) < api.MaxGrown-4 {
			wide.Args = append(wide.Args, m.right(s, 4))
		}
		for terms.Size(deep) < api.MaxGrown-3 {
			deep = sy(sym, []api.Term{deep, m.leaf(s), m.leaf(s)}[:2+m.Intn(2)]...)
			deep.Args[0], deep.Args[1] = deep.Args[1], deep.Args[0]
		}
		for _, x := range []api.Term{wide, deep} {
			y := sy(sym, slices.Clone(x.Args)...)
			m.Shuffle(len(y.Args), func(i, j int) { y.Args[i], y.Args[j] = y.Args[j], y.Args[i] })
			l := wantDown(t, s, x, canon.Canon(s, x))
			if len(l) > 4*api.MaxGrown {
				t.Errorf("%d steps", len(l))
			}
			wantWay(t, s, x, y)
			wantWay(t, s, canon.Canon(s, y), x)
		}
	}
}
