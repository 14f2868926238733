package linsolve_test

import (
	"math/rand"
	"slices"
	"testing"

	"amalgam/api"
)

// count is the greatest number of a vector.
const count = api.MaxCount

func same(l, m [][]int) bool { return slices.EqualFunc(l, m, slices.Equal) }

// rows are all lists of a length, each number from the least to the greatest one.
func rows(length, least, most int) [][]int {
	l := [][]int{nil}
	for range length {
		var longer [][]int
		for _, r := range l {
			for n := least; n <= most; n++ {
				longer = append(longer, append(slices.Clone(r), n))
			}
		}
		l = longer
	}
	return l
}

// sides are all lists of coefficients of at most so many numbers.
func sides(most int) [][]int {
	var l [][]int
	for length := range most + 1 {
		l = append(l, rows(length, 1, api.MaxCoeff)...)
	}
	return l
}

// all is a list of one number, so often.
func all(n, often int) []int { return slices.Repeat([]int{n}, often) }

// holds: are both sums the same?
func holds(a, b, v []int) bool {
	sum := 0
	for i, n := range v {
		if i < len(a) {
			sum += a[i] * n
		} else {
			sum -= b[i-len(a)] * n
		}
	}
	return sum == 0
}

// below: is v below w, as the chapter says it?
func below(v, w []int) bool {
	for i, n := range v {
		if n > w[i] {
			return false
		}
	}
	return !slices.Equal(v, w)
}

func zero(v []int) bool { return !slices.ContainsFunc(v, func(n int) bool { return n != 0 }) }

// minimalOf are those of some vectors that solve, are not all 0, and have no other such one below them.
func minimalOf(a, b []int, vectors [][]int) [][]int {
	var solutions [][]int
	for _, v := range vectors {
		if !zero(v) && holds(a, b, v) {
			solutions = append(solutions, v)
		}
	}
	var l [][]int
	for _, v := range solutions {
		if !slices.ContainsFunc(solutions, func(w []int) bool { return below(w, v) }) {
			l = append(l, v)
		}
	}
	slices.SortFunc(l, slices.Compare[[]int])
	return l
}

// grown finds the minimal solutions another way: all vectors of 1, 2, 3 .. in all that are above no solution, by levels.
func grown(a, b []int) [][]int {
	n := len(a) + len(b)
	level, l := [][]int{make([]int, n)}, [][]int(nil)
	for len(level) > 0 {
		var next [][]int
		for _, v := range level {
			for i := range n {
				w := slices.Clone(v)
				w[i]++
				if useful(a, b, v, i) && !slices.ContainsFunc(l, func(m []int) bool { return below(m, w) || slices.Equal(m, w) }) {
					next = append(next, w)
				}
			}
		}
		slices.SortFunc(next, slices.Compare[[]int])
		next = slices.CompactFunc(next, slices.Equal[[]int])
		level = nil
		for _, w := range next {
			if holds(a, b, w) {
				l = append(l, w)
			} else {
				level = append(level, w)
			}
		}
	}
	slices.SortFunc(l, slices.Compare[[]int])
	return l
}

// useful: does one more of the unknown i bring the sums of both sides nearer to one another? At 0 the left ones begin.
func useful(a, b, v []int, i int) bool {
	left, right := 0, 0
	for j, n := range v {
		if j < len(a) {
			left += a[j] * n
		} else {
			right += b[j-len(a)] * n
		}
	}
	return left <= right == (i < len(a))
}

// maker makes coefficients and vectors.
type maker struct{ *rand.Rand }

func newMaker(seed int64) maker { return maker{rand.New(rand.NewSource(seed))} }

func (m maker) side(most int) []int {
	l := make([]int, m.Intn(most+1))
	for i := range l {
		l[i] = 1 + m.Intn(api.MaxCoeff)
	}
	return l
}

func (m maker) vector(length, most int) []int {
	l := make([]int, length)
	for i := range l {
		l[i] = m.Intn(most + 1)
	}
	return l
}

// roomy is a list with things in its spare room.
func roomy(l ...int) []int { return append(slices.Clone(l), 71, 72, 73)[:len(l)] }

// whole is a list with its spare room.
func whole(l []int) []int { return slices.Clone(l[:cap(l)]) }

// spoil overwrites a list, its spare room too.
func spoil(l []int) {
	for i := range l[:cap(l)] {
		l[:cap(l)][i] = -999
	}
}

func wantBool(t *testing.T, what string, got, want bool, of ...any) {
	t.Helper()
	if got != want {
		t.Errorf("%s of %v: %v; want %v", what, of, got, want)
	}
}
