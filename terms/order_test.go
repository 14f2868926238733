package terms_test

import (
	"math"
	"slices"
	"testing"

	"amalgam/api"
	"amalgam/terms"
)

func wantCompare(t *testing.T, a, b api.Term, want int) {
	t.Helper()
	if got := terms.Compare(a, b); got != want {
		t.Errorf("Compare of %s and %s: %d; want %d", written(a), written(b), got, want)
	}
	if got := terms.Compare(b, a); got != -want {
		t.Errorf("Compare of %s and %s: %d; want %d", written(b), written(a), got, -want)
	}
	if got := terms.Same(a, b); got != (want == 0) {
		t.Errorf("Same of %s and %s: %v", written(a), written(b), got)
	}
}

func TestCompareExamples(t *testing.T) {
	wantCompare(t, v("X"), v("Y"), -1)
	wantCompare(t, sy(a), v("X"), 1)
	wantCompare(t, sy(a), sy(f, v("X"), v("X")), -1)
	wantCompare(t, sy(f, v("X"), sy(a)), sy(f, v("X"), v("Y")), 1)
	wantCompare(t, exampleTerm(), exampleTerm(), 0)
}

func TestCompareNames(t *testing.T) {
	rising := []string{"\x00", " ", "A", "A0", "AA", "Aa", "B", "X", "X1", "X10", "X2", "XX", "Xy", "Y", "_1", "_10", "_2", "a", "\x7f", "é", "\xff", "\xff\xff"}
	for i, one := range rising {
		for j, other := range rising {
			want := min(max(i-j, -1), 1)
			wantCompare(t, v(one), v(other), want)
			wantCompare(t, sy(f, sy(a), v(one)), sy(f, sy(a), v(other)), want)
		}
		wantCompare(t, v(one), sy(math.MinInt), -1)
	}
}

// TestCompareVariables: a variable is its name, whatever else it has.
func TestCompareVariables(t *testing.T) {
	wantCompare(t, under("X", 7, v("Z")), v("X"), 0)
	wantCompare(t, under("X", -1), under("X", 3, sy(a), sy(a)), 0)
	wantCompare(t, under("X", 7, v("Z")), v("Y"), -1)
	wantCompare(t, under("Y", -7), v("X"), 1)
	wantCompare(t, under("X", 7, sy(9), sy(9)), sy(-9), -1)
	wantCompare(t, sy(f, under("X", 7, v("Z")), sy(a)), sy(f, v("X"), sy(a)), 0)
	wantCompare(t, sy(f, under("X", 7, v("Z")), sy(a)), sy(f, v("X"), v("Y")), 1)
}

func TestCompareSymbols(t *testing.T) {
	for i, one := range []int{math.MinInt, -1, 0, 1, 2, math.MaxInt} {
		for j, other := range []int{math.MinInt, -1, 0, 1, 2, math.MaxInt} {
			want := min(max(i-j, -1), 1)
			wantCompare(t, sy(one), sy(other), want)
			if want != 0 {
				wantCompare(t, sy(one, v("Z"), v("Z")), sy(other, v("A")), want)
				wantCompare(t, sy(one, v("A")), sy(other, v("Z"), v("Z")), want)
			}
		}
	}
}

func TestCompareNumbersOfArguments(t *testing.T) {
	wantCompare(t, sy(plus, sy(f)), sy(plus, v("A"), v("A")), -1)
	wantCompare(t, sy(plus), sy(plus, v("A")), -1)
	wantCompare(t, sy(plus, v("X"), v("Y")), sy(plus, v("X"), v("Y"), v("Z")), -1)
	wantCompare(t, sy(plus), api.Term{Sym: plus, Args: []api.Term{}}, 0)
}

func TestCompareFirstUnlikeArguments(t *testing.T) {
	wantCompare(t, sy(f, v("X"), sy(f)), sy(f, v("Y"), v("A")), -1)
	wantCompare(t, sy(f, v("X"), v("A"), v("C")), sy(f, v("X"), v("B"), v("A")), -1)
	wantCompare(t, sy(f, sy(f, v("X"), v("Y")), v("A")), sy(f, sy(f, v("X"), v("Z")), v("A")), -1)
	wantCompare(t, sy(f, sy(f, v("X"), v("Z")), v("A")), sy(f, sy(f, v("X"), v("Y")), v("B")), 1)
}

// TestCompareSameMemory: terms that share their memory are compared by what they are.
func TestCompareSameMemory(t *testing.T) {
	l := []api.Term{v("X"), v("X"), v("Y"), v("Y")}
	wantCompare(t, sy(f, l[:2]...), sy(f, l[:2]...), 0)
	wantCompare(t, sy(f, l[:2]...), sy(f, l[1:3]...), -1)
	wantCompare(t, sy(f, l[:2]...), sy(f, l[:1]...), 1)
}

func TestCompareOfAllSmallTerms(t *testing.T) {
	l := smallTerms()
	var rows [][]mark
	for _, x := range l {
		rows = append(rows, marks(x))
	}
	for i, x := range l {
		for j, y := range l {
			if got, want := terms.Compare(x, y), slices.CompareFunc(rows[i], rows[j], compareMarks); got != want {
				t.Fatalf("Compare of %s and %s: %d; want %d", written(x), written(y), got, want)
			}
		}
	}
}

// orderTerms are terms of all sorts, with some that stand there twice.
func orderTerms() []api.Term {
	m := newMaker(7)
	l := smallTerms()[:250]
	for range 80 {
		l = append(l, m.right(12), m.right(40), m.spoilt(12))
	}
	for _, x := range l[:40] {
		l = append(l, sy(plus, x, x), terms.Clone(x))
	}
	return l
}

// P3.1
func TestTotalOrder(t *testing.T) {
	l := orderTerms()
	var texts []string
	var plain []bool
	for _, x := range l {
		texts = append(texts, written(x))
		plain = append(plain, x.Var == "" && !wrongVars(x))
	}
	for i, x := range l {
		for j, y := range l {
			one, other := terms.Compare(x, y), terms.Compare(y, x)
			if one != -other || one < -1 || one > 1 {
				t.Fatalf("Compare of %s and %s: %d; the other way round: %d", texts[i], texts[j], one, other)
			}
			if plain[i] && plain[j] && (texts[i] == texts[j]) != (one == 0) {
				t.Fatalf("Compare of %s and %s: %d", texts[i], texts[j], one)
			}
			if terms.Same(x, y) != (one == 0) {
				t.Fatalf("Same of %s and %s: %v", texts[i], texts[j], one != 0)
			}
		}
	}
	// What is not above stays so over a third one: in a list that is sorted, each is held against each.
	slices.SortFunc(l, terms.Compare)
	for i, x := range l {
		for _, y := range l[i:] {
			if terms.Compare(x, y) > 0 {
				t.Fatalf("%s comes ahead of %s in a list, and is above it", written(x), written(y))
			}
		}
	}
}

// wrongVars: has it a variable with more than a name? Of such nothing is said but that the name counts.
func wrongVars(t api.Term) bool {
	return slices.ContainsFunc(allPlaces(t), func(p place) bool {
		return p.x.Var != "" && (p.x.Sym != 0 || len(p.x.Args) > 0)
	})
}
