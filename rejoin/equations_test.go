package rejoin_test

import (
	"math"
	"slices"
	"strconv"
	"testing"

	"amalgam/api"
	"amalgam/canon"
)

// wantEquations: both sides are read by example; the left ones are the unknowns.
func wantEquations(t *testing.T, sym int, left, vectors string, fresh int, right []string, number int) {
	t.Helper()
	l := unknowns(t, left)
	want := answer{fresh: number}
	for i, u := range l {
		want.l = append(want.l, api.Equation{L: u.T, R: term(t, right[i])})
	}
	if got := ask(example(), sym, l, rows(t, vectors), fresh); got.told() != want.told() || len(right) != len(l) {
		t.Errorf("of %s, rows %s, fresh %d: %s; want %s", left, vectors, fresh, got.told(), want.told())
	}
}

// P14.1: the chapter's examples of Equations.
func TestP141Examples(t *testing.T) {
	wantEquations(t, plus, "X a", "1 0; 1 1", 4, []string{"plus(_5,_6)", "_6"}, 6)
	wantEquations(t, plus, "X a", "2 1", 0, []string{"plus(_1,_1)", "_1"}, 1)
	l := unknowns(t, "X a")
	wantError(t, "rows 1 0", ask(example(), plus, l, rows(t, "1 0"), 0), api.ErrRejoinEmpty)
	wantError(t, "rows 1", ask(example(), plus, l, rows(t, "1"), 0), api.ErrRejoinRow)
	wantError(t, "sym 0", ask(example(), 0, l, rows(t, "1 1"), 0), api.ErrAbstractSym)
	wantError(t, "fresh -1", ask(example(), plus, l, rows(t, "1 1"), -1), api.ErrArg)
}

func TestEquations(t *testing.T) {
	for _, c := range []struct {
		left, rows string
		fresh      int
		right      []string
		number     int
	}{
		{"X", "1", 0, []string{"_1"}, 1},
		{"a", "1", 7, []string{"_8"}, 8},
		{"X", "3", 0, []string{"plus(_1,_1,_1)"}, 1},
		{"X", "0; 1", 0, []string{"_2"}, 2},
		{"X", "1; 0", 0, []string{"_1"}, 2},
		{"X", "0; 0; 2; 0; 1", 2, []string{"plus(_5,_5,_7)"}, 7},
		{"X Y", "1 0; 0 1", 0, []string{"_1", "_2"}, 2},
		{"X Y", "0 1; 1 0", 0, []string{"_2", "_1"}, 2},
		{"Y X", "0 1; 1 0", 0, []string{"_2", "_1"}, 2},
		{"X Y a b", "0 1 0 1; 0 1 1 0; 1 0 0 1; 1 0 1 0", 0, []string{"plus(_3,_4)", "plus(_1,_2)", "plus(_2,_4)", "plus(_1,_3)"}, 4},
		{"X Y", "1 1; 1 1", 0, []string{"plus(_1,_2)", "plus(_1,_2)"}, 2},
		{"X X", "1 0; 1 2", 0, []string{"plus(_1,_2)", "plus(_2,_2)"}, 2},
		{"X a", "1 1; 0 0; 1 0", 8, []string{"plus(_11,_9)", "_9"}, 11},
		{"X a", "1 2; 2 0", 98, []string{"plus(_100,_100,_99)", "plus(_99,_99)"}, 100},
		{"X", "1; 1; 1", 1 << 20, []string{"plus(_1048577,_1048578,_1048579)"}, 1<<20 + 3},
		{"_1 _2", "1 1; 1 0", 0, []string{"plus(_1,_2)", "_1"}, 2},
		{"f(X,a) plus(X,a) one times(X,one)", "1 1 1 1", 0, []string{"_1", "_1", "_1", "_1"}, 1},
		{"plus(a,plus(X,a)) X", "1 1", 0, []string{"_1", "_1"}, 1},
	} {
		wantEquations(t, plus, c.left, c.rows, c.fresh, c.right, c.number)
	}
	wantEquations(t, times, "X one", "1 1; 2 0", 0, []string{"times(_1,_2,_2)", "_1"}, 2)
	wantEquations(t, times, "X one times(X,one)", "1 1 1; 1 1 0", 0, []string{"times(_1,_2)", "times(_1,_2)", "_1"}, 2)
}

// TestSymbols: each place of a signature, and those about it.
func TestSymbols(t *testing.T) {
	for _, x := range sums() {
		for sym := -3; sym < len(x.s)+3; sym++ {
			got := ask(x.s, sym, named(2), rows(t, "1 2; 0 1"), 3)
			if sym >= 0 && sym < len(x.s) && x.s[sym].Kind != api.Free {
				want := answer{l: []api.Equation{{L: v("X0"), R: v("_4")}, {L: v("X1"), R: sy(sym, v("_4"), v("_4"), v("_5"))}}, fresh: 5}
				if got.told() != want.told() {
					t.Errorf("by %d: %s; want %s", sym, got.told(), want.told())
				}
			} else {
				wantError(t, "by "+strconv.Itoa(sym), got, api.ErrAbstractSym)
			}
		}
		for _, sym := range []int{math.MinInt, math.MaxInt, 1 << 32, 1<<32 + x.sym, -1 << 32} {
			wantError(t, "by a great number", ask(x.s, sym, named(1), rows(t, "1"), 0), api.ErrAbstractSym)
		}
	}
	spare := example()[:3]
	wantError(t, "a symbol in the spare room", ask(spare, plus, named(1), rows(t, "1"), 0), api.ErrAbstractSym)
	wantError(t, "no signature", ask(nil, 0, named(1), rows(t, "1"), 0), api.ErrAbstractSym)
}

func TestFresh(t *testing.T) {
	for _, n := range []int{0, 1, 2, 8, 9, 10, 99, 4095, 1<<20 - 1, 1 << 20} {
		want := answer{l: []api.Equation{{L: v("X0"), R: v("_" + strconv.Itoa(n+1))}}, fresh: n + 1}
		if got := ask(example(), plus, named(1), rows(t, "1"), n); got.told() != want.told() {
			t.Errorf("fresh %d: %s; want %s", n, got.told(), want.told())
		}
	}
	for _, n := range []int{-1, -2, -1 << 20, math.MinInt, 1<<20 + 1, 1 << 21, 1<<32 + 1, math.MaxInt} {
		wantError(t, "fresh "+strconv.Itoa(n), ask(example(), plus, named(1), rows(t, "1"), n), api.ErrArg)
		wantError(t, "fresh "+strconv.Itoa(n)+", no unknowns", ask(example(), plus, nil, nil, n), api.ErrArg)
	}
}

func TestHowManyRows(t *testing.T) {
	for many := range 20 {
		for _, width := range []int{0, 1, 2, 11} {
			e := wantSaidAgain(t, example(), plus, named(width), same(many, 1, width), 90)
			want := api.OK
			if many > 16 {
				want = api.ErrRejoinRow
			} else if many == 0 && width > 0 {
				want = api.ErrRejoinEmpty
			}
			if e != want {
				t.Errorf("%d rows of %d: %d; want %d", many, width, e, want)
			}
		}
	}
	wantError(t, "many rows", ask(example(), plus, named(1), same(100000, 1, 1), 0), api.ErrRejoinRow)
	// The variables of sixteen rows, from the first to the last one.
	l := make([][]int, 16)
	want := answer{fresh: 1<<20 + 16}
	for i := range l {
		l[i] = make([]int, 16)
		l[i][i] = 1
		want.l = append(want.l, api.Equation{L: v("X" + strconv.Itoa(i)), R: v("_" + strconv.Itoa(1<<20+1+i))})
	}
	if got := ask(example(), plus, named(16), l, 1<<20); got.told() != want.told() {
		t.Errorf("sixteen rows: %s; want %s", got.told(), want.told())
	}
}

func TestRowsThatMayNotBe(t *testing.T) {
	s, l := example(), named(3)
	for _, line := range []string{
		"1 1; 1 1 1", "1 1 1; 1 1", "1 1 1 1", "1 1 1; 1 1 1 1; 1 1 1", "1 1 1; 1 1 1; 1", "1 1 1; ",
		"1 1 -1", "-1 1 1; 2 1 1", "1 1 1; 1 -1 1; 1 1 1", "1 1 1; 1 1 -9223372036854775808",
		"1 1 1048577", "1 1048577 1; 1 1 1", "1 1 1; 9223372036854775807 1 1", "9223372036854775807 1 1; 9223372036854775807 1 1; 2 1 1",
		"0 0 0; 0 0 -1", "500 500 500; 1 1", "0 0 0; 0 0 0 0",
	} {
		wantError(t, line, ask(s, plus, l, rows(t, line), 0), api.ErrRejoinRow)
	}
	wantError(t, "nil among the rows", ask(s, plus, l, [][]int{{1, 1, 1}, nil}, 0), api.ErrRejoinRow)
	for _, line := range []string{"1 1 1048576", "1048576 1048576 1048576", "1 1 1; 1 1048576 1; 1 1 1"} {
		wantError(t, line, ask(s, plus, l, rows(t, line), 0), api.ErrTooMany)
	}
	wantError(t, "sixteen times MaxCount", ask(s, plus, l, same(16, 1<<20, 3), 0), api.ErrTooMany)
	spare := rows(t, "1 1 1; 1 1 1")
	spare[1] = spare[1][:2]
	wantError(t, "a number in the spare room", ask(s, plus, l, spare, 0), api.ErrRejoinRow)
}

func TestNoUnknowns(t *testing.T) {
	for many := range 17 {
		want := answer{fresh: 5 + many}
		for _, l := range [][]api.Unknown{nil, {}, named(3)[:0]} {
			if got := ask(example(), plus, l, make([][]int, many), 5); got.told() != want.told() {
				t.Errorf("%d rows: %s; want %s", many, got.told(), want.told())
			}
		}
	}
	wantError(t, "seventeen rows", ask(example(), plus, nil, make([][]int, 17), 0), api.ErrRejoinRow)
	wantError(t, "a row with a number", ask(example(), plus, nil, rows(t, "1"), 0), api.ErrRejoinRow)
	wantError(t, "a row of 0", ask(example(), plus, nil, [][]int{{}, {0}}, 0), api.ErrRejoinRow)
}

// TestTotals: the rows' numbers at an unknown's place are together just so many.
func TestTotals(t *testing.T) {
	s := example()
	for _, n := range []int{0, 1, 2, 3, 16, 17, 398, 399, 400, 401, 402, 1000, 1 << 20} {
		want := api.OK
		if n == 0 {
			want = api.ErrRejoinEmpty
		} else if n >= 400 {
			want = api.ErrTooMany
		}
		spread := [][]int{{n / 2}, {0}, {n/4 + n%2}, {n/2 - n/4}}
		for what, l := range map[string][][]int{"one row": {{n}}, "the last row": {{0}, {0}, {n}}, "the first row": {{n}, {0}}, "spread": spread} {
			for _, sym := range []int{plus, times} {
				if e := wantSaidAgain(t, s, sym, named(1), l, 8); e != want {
					t.Errorf("%d, %s: %d; want %d", n, what, e, want)
				}
			}
		}
	}
	got := ask(s, plus, named(1), rows(t, "399"), 0)
	if len(got.l) != 1 || len(got.l[0].R.Args) != 399 {
		t.Errorf("399: %s", got.told())
	}
	// Sixteen rows, of which each is far below the bound.
	if e := wantSaidAgain(t, s, plus, named(2), append(same(15, 25, 2), []int{24, 24}), 0); e != api.OK {
		t.Errorf("399 in sixteen rows: %d", e)
	}
	if e := wantSaidAgain(t, s, plus, named(2), append(same(15, 25, 2), []int{24, 25}), 0); e != api.ErrTooMany {
		t.Errorf("400 in sixteen rows: %d", e)
	}
}

// TestFirstUnknown: of several unknowns that can't be the first one is told, whatever the other ones' errors are.
func TestFirstUnknown(t *testing.T) {
	for _, c := range []struct {
		rows string
		want api.Errno
	}{
		{"0 400", api.ErrRejoinEmpty},
		{"400 0", api.ErrTooMany},
		{"1 0 400", api.ErrRejoinEmpty},
		{"1 400 0", api.ErrTooMany},
		{"399 1 0; 0 0 0", api.ErrRejoinEmpty},
		{"399 0 1; 1 0 0", api.ErrTooMany},
		{"0 399 1; 0 1 1", api.ErrRejoinEmpty},
		{"1 1 0 0 400", api.ErrRejoinEmpty},
		{"1 1 400 400 0", api.ErrTooMany},
		{"1 1 1 1 0", api.ErrRejoinEmpty},
		{"1 1 1 1 400", api.ErrTooMany},
		{"0 0 0", api.ErrRejoinEmpty},
		{"400 400", api.ErrTooMany},
	} {
		l := rows(t, c.rows)
		wantError(t, c.rows, ask(example(), plus, named(len(l[0])), l, 0), c.want)
	}
}

// TestErrorsInTheirOrder: of each error that applies, the first one that the chapter names is told.
func TestErrorsInTheirOrder(t *testing.T) {
	s := example()
	for sym, noSym := range map[int]bool{-1: true, 0: true, 9: true, plus: false, times: false} {
		for fresh, noFresh := range map[int]bool{-1: true, 1<<20 + 1: true, 0: false, 1 << 20: false} {
			for line, e := range map[string]api.Errno{
				"1 1": api.OK, "1": api.ErrRejoinRow, "1 -1": api.ErrRejoinRow, "0 0; 0": api.ErrRejoinRow, "400 1; 1 1 1": api.ErrRejoinRow,
				"0 1": api.ErrRejoinEmpty, "0 400": api.ErrRejoinEmpty, "400 0": api.ErrTooMany, "1 400": api.ErrTooMany, "": api.ErrRejoinEmpty,
			} {
				if noFresh {
					e = api.ErrArg
				}
				if noSym {
					e = api.ErrAbstractSym
				}
				if got := wantSaidAgain(t, s, sym, named(2), rows(t, line), fresh); got != e {
					t.Errorf("by %d, fresh %d, rows %s: %d; want %d", sym, fresh, line, got, e)
				}
			}
			want := api.ErrRejoinRow
			if noFresh {
				want = api.ErrArg
			}
			if noSym {
				want = api.ErrAbstractSym
			}
			wantError(t, "seventeen rows, each of which is wrong", ask(s, sym, named(2), same(17, -1, 3), fresh), want)
			wantError(t, "seventeen rows of 0", ask(s, sym, named(2), same(17, 0, 2), fresh), want)
		}
	}
}

// TestOfTheUnknownsTAlone: how often an unknown stands, and whether it is an alien, says nothing here.
func TestOfTheUnknownsTAlone(t *testing.T) {
	l := rows(t, "1 0 2; 0 1 1; 3 0 0")
	of := func(n int, alien bool) string {
		u := unknowns(t, "X a f(X,a)")
		for i := range u {
			u[i].N, u[i].Alien = n*(i+1), alien
		}
		return ask(example(), plus, u, l, 4).told()
	}
	want := saidAgain(example(), plus, unknowns(t, "X a f(X,a)"), l, 4).told()
	for _, n := range []int{1, 0, -1, 2, 7, 400, math.MinInt, math.MaxInt} {
		for _, alien := range []bool{true, false} {
			if got := of(n, alien); got != want {
				t.Errorf("N %d, alien %v: %s; want %s", n, alien, got, want)
			}
		}
	}
}

// TestEachTermStaysAsItIsWritten: it is the equation's left side, canonical or not, the fresh variables' names or not.
func TestEachTermStaysAsItIsWritten(t *testing.T) {
	s := example()
	m := newMaker(210)
	met := 0
	for range 500 {
		l := m.unknowns(s, 1+m.Intn(5))
		wantSaidAgain(t, s, plus, l, same(1, 1, len(l)), 0)
		if slices.ContainsFunc(l, func(u api.Unknown) bool { return !canon.Is(s, u.T) }) {
			met++
		}
	}
	if met < 100 {
		t.Errorf("only %d were not canonical", met)
	}
}

// TestEquationsOfAllSmallRows: all rows of small numbers, of few unknowns.
func TestEquationsOfAllSmallRows(t *testing.T) {
	numbers := []int{-1, 0, 1, 2, 399, 400}
	var pairs [][]int
	for _, x := range numbers {
		for _, y := range numbers {
			pairs = append(pairs, []int{x, y})
		}
	}
	met := map[api.Errno]int{}
	for _, x := range pairs {
		for _, y := range pairs {
			met[wantSaidAgain(t, example(), plus, named(2), [][]int{x, y}, 9)]++
			for _, z := range numbers {
				met[wantSaidAgain(t, sumFirst(), 3, named(2), [][]int{x, y, {z, 1}}, 98)]++
			}
		}
	}
	for _, e := range []api.Errno{api.OK, api.ErrRejoinRow, api.ErrRejoinEmpty, api.ErrTooMany} {
		if met[e] < 50 {
			t.Errorf("%d was answered %d times", e, met[e])
		}
	}
}

// TestManyEquations: held against the words said again.
func TestManyEquations(t *testing.T) {
	met := map[api.Errno]int{}
	for i, x := range sums() {
		m := newMaker(int64(220 + i))
		for range 2500 {
			many, width := m.Intn(18), m.Intn(7)
			l := m.rows(many, width)
			if many > 0 && m.Intn(30) == 0 {
				l[m.Intn(many)] = all(1, m.Intn(8))
			}
			sym, fresh := x.sym, []int{0, 1, 5, 9, 95, 995, 1 << 20}[m.Intn(7)]
			if m.Intn(20) == 0 {
				sym = m.Intn(12) - 3
			}
			if m.Intn(20) == 0 {
				fresh = []int{-1, 1<<20 + 1}[m.Intn(2)]
			}
			met[wantSaidAgain(t, x.s, sym, m.unknowns(x.s, width), l, fresh)]++
		}
	}
	for _, e := range []api.Errno{api.OK, api.ErrArg, api.ErrTooMany, api.ErrAbstractSym, api.ErrRejoinRow, api.ErrRejoinEmpty} {
		if met[e] < 100 {
			t.Errorf("%d was answered %d times", e, met[e])
		}
	}
}
