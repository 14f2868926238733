package abstract_test

import (
	"slices"
	"strings"
	"testing"

	"amalgam/abstract"
	"amalgam/api"
	"amalgam/canon"
	"amalgam/sig"
)

func wantUnknowns(t *testing.T, s api.Signature, sym int, x api.Term, want []api.Unknown) {
	t.Helper()
	l := abstract.Unknowns(s, sym, x)
	if told(l) != told(want) {
		t.Errorf("Unknowns by %d of %s: %s; want %s", sym, written(x), told(l), told(want))
	}
	wantSide(t, "Unknowns", l)
}

// P12.1
func TestUnknowns(t *testing.T) {
	for _, c := range []struct {
		sym        int
		term, want string
	}{
		{plus, "X", "1 X"},
		{plus, "_1", "1 _1"},
		{plus, "a", "1 a"},
		{plus, "one", "1 one"},
		{plus, "f(X,a)", "1 f(X,a)"},
		{plus, "times(X,X,a)", "1 times(X,X,a)"},
		{plus, "plus(X,Y)", "1 X 1 Y"},
		{plus, "plus(X,X)", "2 X"},
		{plus, "plus(a,a)", "2 a"},
		{plus, "plus(X,X,Y,a,a,b)", "2 X 1 Y 2 a 1 b"},
		{plus, "plus(b,a,Y,X,a,X)", "2 X 1 Y 2 a 1 b"},
		{plus, "plus(a,plus(X,a))", "1 X 2 a"},
		{plus, "plus(a,a,a,a,a,a,a,a)", "8 a"},
		{plus, "plus(f(X,a),f(a,X),f(X,a))", "2 f(X,a) 1 f(a,X)"},
		{plus, "plus(X,f(X,X),f(X,X),times(X,Y),times(Y,X))", "1 X 2 f(X,X) 2 times(X,Y)"},
		{plus, "plus(times(a,plus(X,X)),times(plus(X,X),a))", "2 times(a,plus(X,X))"},
		{plus, "plus(X10,X2,X,X1)", "1 X 1 X1 1 X10 1 X2"},
		{plus, "plus(A,B,C,D,E,F,G)", "1 A 1 B 1 C 1 D 1 E 1 F 1 G"},
		{times, "X", "1 X"},
		{times, "plus(X,X)", "1 plus(X,X)"},
		{times, "times(X,X,plus(X,X),one)", "2 X 1 plus(X,X)"},
		{times, "a", "1 a"},
		{times, "one", ""},
		{times, "times(one,one)", ""},
	} {
		wantUnknowns(t, example(), c.sym, term(t, c.term), unknowns(t, c.want))
	}
}

// TestUnknownsByThePlainSignature: there a unit is a constant as any other.
func TestUnknownsByThePlainSignature(t *testing.T) {
	plain := sig.Plain(example())
	wantUnknowns(t, plain, times, sy(one), []api.Unknown{unknown(sy(one), 1)})
	wantUnknowns(t, plain, times, sy(times, v("X"), sy(one), sy(one)), []api.Unknown{unknown(v("X"), 1), unknown(sy(one), 2)})
}

// TestUnknownsByTheFirstSymbol: a variable, too, has the Sym 0, and is no sum for all that.
func TestUnknownsByTheFirstSymbol(t *testing.T) {
	s := sumFirst()
	wantUnknowns(t, s, 0, v("X"), []api.Unknown{unknown(v("X"), 1)})
	wantUnknowns(t, s, 0, sy(0, v("X"), v("X"), sy(1)), []api.Unknown{unknown(v("X"), 2), unknown(sy(1), 1)})
	wantUnknowns(t, s, 3, sy(0, v("X"), v("X")), []api.Unknown{unknown(sy(0, v("X"), v("X")), 1)})
	wantUnknowns(t, s, 3, sy(1), nil)
}

// TestUnknownsOfNoSum: canon's Parts by a free symbol, and by no symbol's place, is the term alone.
func TestUnknownsOfNoSum(t *testing.T) {
	for _, sym := range []int{-1, a, f, g, 7, 99} {
		for _, line := range []string{"X", "a", "one", "f(X,X)", "plus(X,X)", "times(X,X)"} {
			x := term(t, line)
			wantUnknowns(t, example(), sym, x, []api.Unknown{unknown(x, 1)})
		}
	}
}

func TestUnknownsOfManyTerms(t *testing.T) {
	for i, s := range signatures() {
		m := newMaker(int64(120 + i))
		met := 0
		for range 1500 {
			few := []api.Term{v("X"), v("Y"), m.right(s, 1), m.right(s, 5), m.right(s, 9)}
			for sym := range s {
				if s[sym].Kind == api.Free {
					continue
				}
				for _, x := range []api.Term{m.sum(s, sym, few), canon.Canon(s, few[3])} {
					want := arguments(s, sym, x)
					wantUnknowns(t, s, sym, x, want)
					if slices.ContainsFunc(want, func(u api.Unknown) bool { return u.N > 1 && u.Alien }) {
						met++
					}
				}
			}
			if t.Failed() {
				return
			}
		}
		if met < 500 {
			t.Errorf("signature %d: only %d sums had an alien several times", i, met)
		}
	}
}

// TestUnknownsOfLongSums: as long as a term that is made, and much longer.
func TestUnknownsOfLongSums(t *testing.T) {
	for _, n := range []int{399, 400, 100000} {
		l := slices.Concat(slices.Repeat([]api.Term{v("X")}, n), slices.Repeat([]api.Term{sy(a)}, n+1))
		wantUnknowns(t, example(), plus, sy(plus, l...), []api.Unknown{unknown(v("X"), n), unknown(sy(a), n+1)})
	}
	var l []api.Term
	var want []api.Unknown
	for n := range 300 {
		x := v("X" + strings.Repeat("x", n))
		l, want = append(l, x, x), append(want, unknown(x, 2))
	}
	wantUnknowns(t, example(), plus, sy(plus, l...), want)
}

// P12.1: "the N of a side's unknowns, in order".
func TestCounts(t *testing.T) {
	for _, c := range []struct {
		side string
		want []int
	}{
		{"", nil}, {"1 X", []int{1}}, {"3 a", []int{3}}, {"2 X 1 Y 2 a 1 b", []int{2, 1, 2, 1}}, {"6 a 5 f(X,X) 4 b", []int{6, 5, 4}},
		{"1 A 2 B 3 C 4 D 5 E 6 F 7 G", []int{1, 2, 3, 4, 5, 6, 7}},
	} {
		if n := abstract.Counts(unknowns(t, c.side)); !slices.Equal(n, c.want) {
			t.Errorf("Counts of %s: %v; want %v", c.side, n, c.want)
		}
	}
	if n := abstract.Counts([]api.Unknown{}); len(n) != 0 {
		t.Errorf("Counts of nothing: %v", n)
	}
}

// P12.1: "for each unknown of l, and then of r: WantOne (2), if it is an alien, else WantSome (1)".
func TestWants(t *testing.T) {
	for _, c := range []struct {
		l, r string
		want []int
	}{
		{"", "", nil},
		{"1 X", "", []int{1}},
		{"", "1 X", []int{1}},
		{"1 a", "", []int{2}},
		{"", "1 a", []int{2}},
		{"1 X", "1 a", []int{1, 2}},
		{"1 a", "1 X", []int{2, 1}},
		{"3 X 4 Y", "5 Z", []int{1, 1, 1}},
		{"3 a 4 b", "5 one 1 f(X,X)", []int{2, 2, 2, 2}},
		{"1 X 1 a", "1 Y 1 Z 1 b", []int{1, 2, 1, 1, 2}},
		{"1 f(X,Y)", "2 Y 1 Z 1 times(X,X) 3 b", []int{2, 1, 1, 2, 2}},
		{"1 A 1 B 1 C 1 D 1 E 1 F", "1 a 1 one 1 b", []int{1, 1, 1, 1, 1, 1, 2, 2, 2}},
	} {
		if n := abstract.Wants(unknowns(t, c.l), unknowns(t, c.r)); !slices.Equal(n, c.want) {
			t.Errorf("Wants of %s and %s: %v; want %v", c.l, c.r, n, c.want)
		}
	}
	if n := abstract.Wants([]api.Unknown{}, []api.Unknown{}); len(n) != 0 {
		t.Errorf("Wants of nothing: %v", n)
	}
	if api.WantOne != 2 || api.WantSome != 1 {
		t.Errorf("WantOne %d, WantSome %d", api.WantOne, api.WantSome)
	}
}

// TestCountsAndWantsOfAnyLists: lists that are no sides, too: they fall, stand twice, have strange numbers, and say of a variable that it is an alien.
func TestCountsAndWantsOfAnyLists(t *testing.T) {
	l := []api.Unknown{unknown(sy(b), 0), unknown(v("X"), -1), unknown(v("X"), 1<<62), unknown(sy(99), 7), {T: v("Y"), N: -1 << 63, Alien: true}, {T: sy(a), N: 3}, {}}
	r := []api.Unknown{{Alien: true}, unknown(sy(plus), 0), unknown(v("x"), 1)}
	if n := abstract.Counts(l); !slices.Equal(n, []int{0, -1, 1 << 62, 7, -1 << 63, 3, 0}) {
		t.Errorf("Counts: %v", n)
	}
	if n := abstract.Wants(l, r); !slices.Equal(n, []int{2, 1, 1, 2, 2, 1, 1, 2, 2, 1}) {
		t.Errorf("Wants: %v", n)
	}
	if n := abstract.Wants(r, l); !slices.Equal(n, []int{2, 2, 1, 2, 1, 1, 2, 2, 1, 1}) {
		t.Errorf("Wants: %v", n)
	}
	long := slices.Repeat(l, 10000)
	if n := abstract.Counts(long); len(n) != 70000 || n[69999] != 0 || n[69998] != 3 {
		t.Errorf("Counts of a long list: %d", len(n))
	}
	if n := abstract.Wants(long, long); len(n) != 140000 || n[139995] != 1 || n[139996] != 2 {
		t.Errorf("Wants of long lists: %d", len(n))
	}
}
