package linsolve_test

import (
	"math"
	"slices"
	"testing"

	"amalgam/api"
	"amalgam/linsolve"
)

func TestCheck(t *testing.T) {
	for _, c := range []struct {
		a, b []int
		e    api.Errno
	}{
		{nil, nil, api.OK},
		{[]int{}, []int{1}, api.OK},
		{[]int{6}, nil, api.OK},
		{all(1, 5), all(6, 5), api.OK},
		{[]int{1, 2, 3, 4, 5}, []int{6, 5, 4, 3, 2}, api.OK},
		{all(1, 6), nil, api.ErrLinSide},
		{nil, all(1, 6), api.ErrLinSide},
		{all(1, 6), all(1, 6), api.ErrLinSide},
		{all(1, 1000), nil, api.ErrLinSide},
		{all(0, 6), nil, api.ErrLinSide},
		{all(1, 6), []int{7}, api.ErrLinSide},
		{[]int{7}, all(1, 6), api.ErrLinSide},
		{[]int{0}, all(0, 6), api.ErrLinSide},
		{[]int{math.MinInt}, all(math.MaxInt, 6), api.ErrLinSide},
		{[]int{0}, []int{1}, api.ErrLinCoeff},
		{[]int{1}, []int{0}, api.ErrLinCoeff},
		{[]int{7}, nil, api.ErrLinCoeff},
		{nil, []int{7}, api.ErrLinCoeff},
		{[]int{1, 1, 1, 1, 7}, all(6, 5), api.ErrLinCoeff},
		{all(6, 5), []int{1, 1, 1, 1, 0}, api.ErrLinCoeff},
		{[]int{-1}, []int{1}, api.ErrLinCoeff},
		{[]int{1}, []int{-6}, api.ErrLinCoeff},
		{[]int{math.MaxInt}, []int{1}, api.ErrLinCoeff},
		{[]int{1}, []int{math.MinInt}, api.ErrLinCoeff},
		{[]int{1, 1 << 32}, []int{1}, api.ErrLinCoeff},
	} {
		if e := linsolve.Check(c.a, c.b); e != c.e {
			t.Errorf("Check of %v and %v: %v; want %v", c.a, c.b, e, c.e)
		}
	}
}

// TestCheckByNumber: at each place of a side of each length, each number near those that may be.
func TestCheckByNumber(t *testing.T) {
	for length := 1; length <= api.MaxSide+1; length++ {
		for at := range length {
			for n := -2; n <= api.MaxCoeff+2; n++ {
				l := all(3, length)
				l[at] = n
				want := api.OK
				if length > api.MaxSide {
					want = api.ErrLinSide
				} else if n < 1 || n > 6 {
					want = api.ErrLinCoeff
				}
				if e, f := linsolve.Check(l, nil), linsolve.Check([]int{2}, l); e != want || f != want {
					t.Errorf("Check of %v: %v, %v; want %v", l, e, f, want)
				}
			}
		}
	}
}

// wrongSides are coefficients that may not be.
func wrongSides() [][2][]int {
	return [][2][]int{
		{{0}, {0}}, {{0}, {1}}, {{1}, {0}}, {{7}, {7}}, {{7}, {1}}, {{1}, {7}}, {{-1}, {-1}}, {{-1}, {1}}, {{1}, {-1}},
		{{math.MaxInt}, {math.MaxInt}}, {{math.MinInt}, {math.MinInt}}, {{1 << 40}, {1}}, {all(1, 6), {1}}, {{1}, all(1, 6)}, {all(1, 6), all(1, 6)},
		{nil, {7}}, {{0}, nil}, {nil, all(1, 6)}, {all(1, 5), all(0, 5)},
	}
}

func TestSolves(t *testing.T) {
	for _, c := range []struct {
		a, b, v []int
		solves  bool
		minimal bool
	}{
		{[]int{2}, []int{3}, []int{3, 2}, true, true},
		{[]int{2}, []int{3}, []int{6, 4}, true, false},
		{[]int{2}, []int{3}, []int{0, 0}, true, false},
		{[]int{2}, []int{3}, []int{2, 3}, false, false},
		{[]int{2}, []int{3}, []int{3, 3}, false, false},
		{[]int{2}, []int{3}, []int{3}, false, false},
		{[]int{2}, []int{3}, []int{3, 2, 0}, false, false},
		{[]int{2}, []int{3}, nil, false, false},
		{[]int{2}, []int{3}, []int{-3, -2}, false, false},
		{[]int{2, 2}, []int{3}, []int{4, -1, 2}, false, false},
		{[]int{2, 2}, []int{3, 3}, []int{1, 2, 1, 1}, true, true},
		{[]int{4}, []int{6}, []int{3, 2}, true, true},
		{[]int{4}, []int{6}, []int{6, 4}, true, false},
		{[]int{1}, []int{1}, []int{1, 1}, true, true},
		{[]int{1}, []int{1}, []int{2, 2}, true, false},
		{[]int{1}, []int{1}, []int{count, count}, true, false},
		{[]int{1}, []int{1}, []int{count + 1, count + 1}, false, false},
		{[]int{1}, []int{1}, []int{count, count - 1}, false, false},
		{[]int{1}, []int{2}, []int{count, count / 2}, true, false},
		{[]int{2}, []int{1}, []int{count, 2 * count}, false, false},
		{[]int{1}, []int{1}, []int{math.MaxInt, math.MaxInt}, false, false},
		{[]int{1}, []int{1}, []int{math.MinInt, math.MinInt}, false, false},
		{[]int{2}, []int{4}, []int{math.MinInt, 0}, false, false},
		{[]int{4}, []int{4}, []int{1 << 62, 0}, false, false},
		{all(6, 5), all(6, 5), all(count, 10), true, false},
		{all(6, 5), all(5, 5), all(count, 10), false, false},
		{all(5, 5), all(6, 5), []int{6, 0, 0, 0, 0, 5, 0, 0, 0, 0}, true, true},
		{all(5, 5), all(6, 5), []int{2, 1, 1, 1, 1, 1, 1, 1, 1, 1}, true, true},
		{all(5, 5), all(6, 5), []int{12, 0, 0, 0, 0, 10, 0, 0, 0, 0}, true, false},
		{[]int{2, 1}, []int{3}, []int{1, 4, 2}, true, false},
		{[]int{1, 2}, []int{3}, []int{0, 3, 2}, true, true},
		{nil, nil, nil, true, false},
		{nil, nil, []int{}, true, false},
		{nil, nil, []int{0}, false, false},
		{nil, []int{1}, []int{0}, true, false},
		{nil, []int{1}, []int{1}, false, false},
		{nil, []int{1}, nil, false, false},
		{[]int{6, 6}, nil, []int{0, 0}, true, false},
		{[]int{6, 6}, nil, []int{0, 1}, false, false},
	} {
		wantBool(t, "Solves", linsolve.Solves(c.a, c.b, c.v), c.solves, c.a, c.b, c.v)
		wantBool(t, "Minimal", linsolve.Minimal(c.a, c.b, c.v), c.minimal, c.a, c.b, c.v)
	}
}

// TestSolvesOfWrongSides: coefficients that may not be have no solutions, not even the vector of 0 alone.
func TestSolvesOfWrongSides(t *testing.T) {
	for _, c := range wrongSides() {
		n := len(c[0]) + len(c[1])
		for _, v := range [][]int{all(0, n), all(1, n), all(count, n), nil, all(0, n+1)} {
			wantBool(t, "Solves", linsolve.Solves(c[0], c[1], v), false, c, v)
			wantBool(t, "Minimal", linsolve.Minimal(c[0], c[1], v), false, c, v)
		}
	}
}

// TestSolvesByRows holds both against the chapter's words: all vectors of small numbers, of all short sides.
func TestSolvesByRows(t *testing.T) {
	for _, a := range sides(2) {
		for _, b := range sides(1) {
			vectors := rows(len(a)+len(b), 0, 8)
			minimal := minimalOf(a, b, vectors)
			at := 0
			for _, v := range vectors {
				is := at < len(minimal) && slices.Equal(v, minimal[at])
				if is {
					at++
				}
				if linsolve.Solves(a, b, v) != holds(a, b, v) || linsolve.Minimal(a, b, v) != is {
					t.Fatalf("%v, %v, %v: %v, %v", a, b, v, linsolve.Solves(a, b, v), linsolve.Minimal(a, b, v))
				}
				if linsolve.Solves(b, a, slices.Concat(v[len(a):], v[:len(a)])) != holds(a, b, v) {
					t.Fatalf("%v, %v, %v: the other way round", b, a, v)
				}
			}
			if at != len(minimal) {
				t.Fatalf("%v, %v: %d of %v seen", a, b, at, minimal)
			}
		}
	}
}
