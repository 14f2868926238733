package pick_test

import (
	"slices"
	"testing"

	"amalgam/api"
	"amalgam/pick"
)

func TestSum(t *testing.T) {
	for _, c := range []struct {
		rows [][]int
		want []int
		mask uint32
		sum  []int
		fits bool
		e    api.Errno
	}{
		{example(), []int{0, 0, 0}, 5, []int{2, 1, 2}, true, 0},
		{example(), []int{0, 0, 0}, 0, []int{0, 0, 0}, true, 0},
		{example(), []int{0, 0, 1}, 0, []int{0, 0, 0}, false, 0},
		{example(), []int{0, 0, 1}, 1, []int{1, 1, 0}, false, 0},
		{example(), []int{0, 0, 1}, 2, []int{0, 1, 1}, true, 0},
		{example(), []int{0, 0, 1}, 4, []int{1, 0, 2}, true, 0},
		{example(), []int{0, 0, 2}, 1, []int{1, 1, 0}, false, 0},
		{example(), []int{0, 0, 2}, 2, []int{0, 1, 1}, true, 0},
		{example(), []int{0, 0, 2}, 4, []int{1, 0, 2}, false, 0},
		{example(), []int{1, 1, 1}, 7, []int{2, 2, 3}, true, 0},
		{example(), []int{2, 1, 1}, 7, []int{2, 2, 3}, false, 0},
		{example(), []int{1, 2, 1}, 6, []int{1, 1, 3}, true, 0},
		{example(), []int{0, 0, 0}, 8, nil, false, api.ErrArg},
		{example(), []int{0, 0, 0}, 15, nil, false, api.ErrArg},
		{example(), []int{0, 0, 0}, 1 << 16, nil, false, api.ErrArg},
		{example(), []int{0, 0, 0}, 1 << 31, nil, false, api.ErrArg},
		{example(), []int{0, 0, 0}, 1<<31 | 5, nil, false, api.ErrArg},
		{example(), []int{0, 0, 0}, 1<<32 - 1, nil, false, api.ErrArg},
		{nil, nil, 0, nil, true, 0},
		{nil, nil, 1, nil, false, api.ErrArg},
		{nil, nil, 1 << 31, nil, false, api.ErrArg},
		{nil, []int{0}, 0, []int{0}, true, 0},
		{nil, []int{1}, 0, []int{0}, false, 0},
		{nil, []int{2}, 0, []int{0}, false, 0},
		{nil, []int{2}, 1, nil, false, api.ErrArg},
		{tall(16, 0, 0), nil, 1<<16 - 1, nil, true, 0},
		{tall(16, 0, 0), nil, 1 << 16, nil, false, api.ErrArg},
		{tall(16, count, 10), all(1, 10), 1<<16 - 1, all(16*count, 10), true, 0},
		{tall(16, count, 10), all(2, 10), 1<<16 - 1, all(16*count, 10), false, 0},
		{tall(16, 1, 10), all(2, 10), 1 << 15, all(1, 10), true, 0},
		{tall(16, 1, 10), all(2, 10), 1<<15 | 1, all(2, 10), false, 0},
		{tall(16, 1, 10), all(2, 10), 1<<16 | 1<<15, nil, false, api.ErrArg},
	} {
		sum, e := pick.Sum(c.rows, c.want, c.mask)
		if !slices.Equal(sum, c.sum) || e != c.e {
			t.Errorf("Sum of %v by %v, mask %d: %v, %v; want %v, %v", c.rows, c.want, c.mask, sum, e, c.sum, c.e)
		}
		if fits, e := pick.Fits(c.rows, c.want, c.mask); fits != c.fits || e != c.e {
			t.Errorf("Fits of %v by %v, mask %d: %v, %v; want %v, %v", c.rows, c.want, c.mask, fits, e, c.fits, c.e)
		}
	}
}

// TestSumOfWrongRows: Check's error comes ahead of what is wrong about the mask.
func TestSumOfWrongRows(t *testing.T) {
	for _, c := range wrong() {
		for _, mask := range []uint32{0, 1, 1 << 16, 1 << 31, 1<<32 - 1} {
			if sum, e := pick.Sum(c.rows, c.want, mask); sum != nil || e != c.e {
				t.Errorf("Sum of %v by %v, mask %d: %v, %v; want %v", c.rows, c.want, mask, sum, e, c.e)
			}
			if fits, e := pick.Fits(c.rows, c.want, mask); fits || e != c.e {
				t.Errorf("Fits of %v by %v, mask %d: %v, %v; want %v", c.rows, c.want, mask, fits, e, c.e)
			}
		}
	}
}

// TestSumByWords holds Sum and Fits against the chapter's words: all rows of small numbers, all wants, all masks and some more.
func TestSumByWords(t *testing.T) {
	for columns := range 3 {
		for often := range 4 {
			for _, rows := range tables(often, lists(columns, 2)) {
				for _, want := range lists(columns, 2) {
					checkMasks(t, rows, want)
				}
			}
		}
	}
	m := newMaker(1)
	for range 300 {
		columns := m.Intn(11)
		checkMasks(t, m.table(m.Intn(6), columns), m.list(columns, 2))
	}
}

// checkMasks goes through all masks, up to those with one bit too many.
func checkMasks(t *testing.T, rows [][]int, want []int) {
	t.Helper()
	for mask := range uint32(4) << len(rows) {
		sum, e := pick.Sum(rows, want, mask)
		fits, f := pick.Fits(rows, want, mask)
		if mask>>len(rows) != 0 {
			if sum != nil || fits || e != api.ErrArg || f != api.ErrArg {
				t.Fatalf("%v by %v, mask %d: %v, %v; %v, %v", rows, want, mask, sum, e, fits, f)
			}
			continue
		}
		if s := added(rows, len(want), mask); !slices.Equal(sum, s) || fits != right(want, s) || e != 0 || f != 0 {
			t.Fatalf("%v by %v, mask %d: %v, %v; %v, %v; want %v", rows, want, mask, sum, e, fits, f, s)
		}
	}
}
