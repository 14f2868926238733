package split_test

import (
	"math"
	"testing"

	"amalgam/api"
	"amalgam/split"
)

func wantCount(t *testing.T, m, k []int, empty bool, most, want int, e api.Errno) {
	t.Helper()
	if n, f := split.Count(m, k, empty, most); n != want || f != e {
		t.Fatalf("Count of %v and %v, %v, %d at most: %d, %v; want %d, %v", m, k, empty, most, n, f, want, e)
	}
}

func TestCount(t *testing.T) {
	for _, c := range []struct {
		m, k        []int
		empty       bool
		most, count int
	}{
		{all(6, 5), all(1, 5), true, 1000, 1000},
		{all(1, 5), all(1, 5), false, 1000, 120},
		{all(1, 5), all(1, 5), true, 5000, 3125},
		{[]int{1, 1}, []int{1, 1}, false, 9, 2},
		{[]int{1, 1}, []int{1, 1}, true, 9, 4},
		{[]int{3}, []int{1, 2}, false, 9, 1},
		{[]int{3}, []int{1, 2}, true, 9, 2},
		{[]int{3}, []int{2, 2}, true, 9, 0},
		{nil, nil, false, 9, 1},
		{nil, nil, true, 9, 1},
		{[]int{0, 0}, nil, false, 9, 1},
		{[]int{0, 1}, nil, true, 9, 0},
		{nil, []int{1, 6}, true, 9, 1},
		{nil, []int{1, 6}, false, 9, 0},
		{[]int{0}, []int{1}, true, 9, 1},
		{[]int{0}, []int{1}, false, 9, 0},
	} {
		wantCount(t, c.m, c.k, c.empty, c.most, c.count, api.OK)
	}
}

// TestCountErrors: Check's come ahead of a most that is below 0.
func TestCountErrors(t *testing.T) {
	for _, most := range []int{math.MinInt, -2, -1, 0, 1, math.MaxInt} {
		for _, empty := range both() {
			for _, c := range wrong() {
				wantCount(t, c.m, c.k, empty, most, 0, c.e)
			}
			for _, c := range allowed() {
				if most < 0 {
					wantCount(t, c.m, c.k, empty, most, 0, api.ErrArg)
				} else {
					wantCount(t, c.m, c.k, empty, most, min(most, counted(c.m, c.k, empty)), api.OK)
				}
			}
		}
	}
}

// TestCountMost: none, one, just as many as there are, fewer, more.
func TestCountMost(t *testing.T) {
	for _, c := range []pair{
		{nil, nil, 0}, {[]int{1}, nil, 0}, {[]int{0}, []int{1}, 0}, {[]int{3}, []int{2, 2}, 0}, {[]int{3}, []int{1, 2}, 0},
		{[]int{2, 2}, []int{1, 2, 1}, 0}, {all(1, 5), all(1, 5), 0}, {[]int{6, 6}, []int{1, 1, 1}, 0}, {[]int{4, 0, 5}, []int{1, 2, 3, 1}, 0},
	} {
		for _, empty := range both() {
			n := len(told(split.All(c.m, c.k, empty), -1))
			for _, most := range []int{0, 1, 2, n / 2, n - 1, n, n + 1, 2 * n, 2*n + 1, 1 << 31, 1 << 32, math.MaxInt} {
				if most < 0 {
					wantCount(t, c.m, c.k, empty, most, 0, api.ErrArg)
				} else {
					wantCount(t, c.m, c.k, empty, most, min(n, most), api.OK)
				}
			}
		}
	}
}

// TestCountOfVeryMany: more than can be gone through are counted all the same, and at once.
func TestCountOfVeryMany(t *testing.T) {
	for _, most := range []int{0, 1, 1000, 1 << 32, 387671438494} {
		wantCount(t, all(6, 5), all(1, 5), true, most, most, api.OK)
		wantCount(t, all(6, 5), all(1, 5), false, most, most, api.OK)
	}
	// 210 ways of each kind.
	wantCount(t, all(6, 5), all(1, 5), true, math.MaxInt, 210*210*210*210*210, api.OK)
	wantCount(t, all(6, 5), all(1, 5), true, 408410100000, 408410100000, api.OK)
	wantCount(t, all(6, 5), all(1, 5), true, 408410099999, 408410099999, api.OK)
	wantCount(t, all(6, 5), all(1, 5), false, math.MaxInt, 387671438495, api.OK)
	wantCount(t, all(5, 5), []int{1, 1, 1, 1, 6}, true, math.MaxInt, 56*56*56*56*56, api.OK)
	wantCount(t, all(5, 5), []int{1, 1, 1, 1, 6}, false, math.MaxInt, 0, api.OK)
}

// TestCountByFormula holds Count against a number that is worked out another way.
func TestCountByFormula(t *testing.T) {
	if n := counted(all(6, 5), all(1, 5), false); n != 387671438495 {
		t.Fatalf("worked out: %d", n)
	}
	m := newMaker(2)
	met := 0
	for range 1500 {
		counts, takers := m.list(5, 0, 6), m.list(5, 1, 1+m.Intn(6))
		for _, empty := range both() {
			n := counted(counts, takers, empty)
			wantCount(t, counts, takers, empty, math.MaxInt, n, api.OK)
			most := m.Intn(2*n + 2)
			wantCount(t, counts, takers, empty, most, min(n, most), api.OK)
			if n > 1000000 {
				met++
			}
		}
	}
	if met < 20 {
		t.Errorf("there were so many only %d times", met)
	}
}
