package units_test

import (
	"math"
	"slices"
	"strconv"
	"strings"
	"sync"
	"testing"

	"amalgam/api"
	"amalgam/units"
)

// spoil writes on all memory of some binds, their spare room too.
func spoil(l []api.Bind) {
	l = l[:cap(l)]
	for i := range l {
		for j := range l[i].T.Args[:cap(l[i].T.Args)] {
			l[i].T.Args[:cap(l[i].T.Args)][j] = v("Spoilt")
		}
		l[i] = api.Bind{Var: "Spoilt", T: sy(66, v("Spoilt"))}
	}
}

func spoilPlaces(l []int) {
	for i := range l[:cap(l)] {
		l[:cap(l)][i] = 999
	}
}

// roomy is a list with things in its spare room.
func roomy[T any](l []T, spare ...T) []T {
	return append(slices.Clip(slices.Clone(l)), spare...)[:len(l)]
}

// roomyTerm is a term of which each list has spare room, with something in it.
func roomyTerm(t api.Term) api.Term {
	l := make([]api.Term, 0, len(t.Args)+2)
	for _, x := range t.Args {
		l = append(l, roomyTerm(x))
	}
	copy(l[len(l):cap(l)], []api.Term{v("Spare"), sy(sum, v("Spare"))})
	t.Args = l
	return t
}

// wholeTerm tells a term with all its spare room.
func wholeTerm(t api.Term) string {
	var b strings.Builder
	b.WriteString(strconv.Quote(t.Var) + strconv.Itoa(t.Sym) + "<" + strconv.Itoa(len(t.Args)))
	for _, x := range t.Args[:cap(t.Args)] {
		b.WriteString(wholeTerm(x))
	}
	return b.String() + ">"
}

// P3: what is handed in stays as it was, its spare room too.
func TestOfLeavesWhatItIsGiven(t *testing.T) {
	m := newMaker(4)
	for range 2000 {
		n := m.Intn(9)
		s := roomy(m.signature(n), example()...)
		l, r := roomyTerm(m.term(n, 1+m.Intn(9))), roomyTerm(m.term(n, 1+m.Intn(9)))
		wereSymbols, left, right := slices.Clone(s[:cap(s)]), wholeTerm(l), wholeTerm(r)
		got := units.Of(s, l, r)
		spoilPlaces(got)
		if !slices.Equal(s[:cap(s)], wereSymbols) || wholeTerm(l) != left || wholeTerm(r) != right {
			t.Fatalf("%v, %s and %s became %v, %s and %s", wereSymbols, left, right, s[:cap(s)], wholeTerm(l), wholeTerm(r))
		}
		if again := units.Of(s, l, r); !slices.Equal(again, ofByWords(s, l, r)) {
			t.Fatalf("behind a spoilt answer: %v", again)
		}
	}
}

// P3: the same of units and variables.
func TestWaysLeaveWhatTheyAreGiven(t *testing.T) {
	lists(func(u []int, vars []string) {
		u, vars = roomy(u, 71, 72, 73), roomy(vars, "Spare", "Room")
		wereUnits, wereVars := slices.Clone(u[:cap(u)]), slices.Clone(vars[:cap(vars)])
		for _, most := range []int{-1, 0, 4, math.MaxInt} {
			units.Many(u, vars, most)
		}
		for _, k := range []int{-1, 0, 1, 2, 7, 30, math.MaxInt} {
			binds, _ := units.Way(u, vars, k)
			spoil(binds)
		}
		for binds := range units.All(u, vars) {
			spoil(binds)
		}
		if !slices.Equal(u[:cap(u)], wereUnits) || !slices.Equal(vars[:cap(vars)], wereVars) {
			t.Fatalf("%v and %q became %v and %q", wereUnits, wereVars, u[:cap(u)], vars[:cap(vars)])
		}
	})
}

// P3: what comes out is new memory, at each call.
func TestAnswersAreNewMemory(t *testing.T) {
	s, l, r := wide(), sy(and, v("X"), v("Y")), sy(sum, v("X"), v("Y"))
	first, second := units.Of(s, l, r), units.Of(s, l, r)
	spoilPlaces(first)
	if !slices.Equal(second, []int{zero, no}) {
		t.Errorf("Of shares: %v", second)
	}
	u, vars := []int{1, 5}, []string{"X", "Y", "Z"}
	one, _ := units.Way(u, vars, 14)
	other, _ := units.Way(u, vars, 14)
	_ = append(one[:1], to("Spoilt", 66))
	spoil(one)
	wantBinds(t, other, []api.Bind{to("X", 1), to("Y", 1), to("Z", 5)}, "another answer spoilt")
	wantWay(t, u, vars, 14, to("X", 1), to("Y", 1), to("Z", 5))
}

// P3: what was answered does not hang on what becomes of the lists that were handed in.
func TestAnswersStay(t *testing.T) {
	u, vars := []int{1, 5}, []string{"X", "Y"}
	binds, _ := units.Way(u, vars, 5)
	u[0], u[1], vars[0], vars[1] = 77, 78, "Spoilt", "Too"
	wantBinds(t, binds, []api.Bind{to("X", 1), to("Y", 5)}, "lists spoilt")
	s, l := wide(), sy(sum, v("X"), v("Y"))
	places := units.Of(s, l, l)
	s[zero], l.Args[0] = api.Symbol{}, sy(and)
	if !slices.Equal(places, []int{zero}) {
		t.Errorf("Of: %v", places)
	}
}

// P3: nothing is kept from call to call, so that calls side by side answer as calls one behind the other.
func TestNothingIsKept(t *testing.T) {
	u, vars := []int{1, 5}, []string{"X", "Y", "Z"}
	want := allWays(u, vars)
	walk := units.All(u, vars)
	s, l, r := wide(), sy(and, v("X"), v("Y")), sy(sum, v("X"), v("Y"))
	var wait sync.WaitGroup
	for range 8 {
		wait.Go(func() {
			for range 50 {
				k := 0
				for binds := range walk {
					wantBinds(t, binds, want[k], "All", k)
					k++
				}
				wantWay(t, u, vars, 5, want[5]...)
				wantOf(t, s, l, r, zero, no)
			}
		})
	}
	wait.Wait()
}

// P1: no call panics, and each ends, at all lists of strange things.
func TestStrangeArguments(t *testing.T) {
	strange := []int{math.MinInt, math.MinInt + 1, -1 << 32, -1, 0, 1, 2, 1 << 32, math.MaxInt - 1, math.MaxInt}
	for _, u := range [][]int{nil, {}, {math.MinInt}, {math.MaxInt, -1}, strange, someUnits(70000)} {
		for _, vars := range [][]string{nil, {}, {""}, {"", "", "X"}, {"\xff\x00", "no name"}, someVars(5), someVars(70000)} {
			for _, n := range strange {
				many := units.Many(u, vars, n)
				if many < 0 || n < 0 && many != 0 || n >= 0 && many > n {
					t.Errorf("%d units, %d variables, %d at most: %d", len(u), len(vars), n, many)
				}
				if binds, ok := units.Way(u, vars, n); n < 0 && ok || !ok && len(binds) > 0 {
					t.Errorf("%d units, %d variables, way %d: %v, %v", len(u), len(vars), n, binds, ok)
				}
			}
			if l := told(units.All(u, vars), 50); len(l) != units.Many(u, vars, 50) {
				t.Errorf("%d units, %d variables: %d ways of 50", len(u), len(vars), len(l))
			}
		}
	}
}
