package split_test

import (
	"testing"

	"amalgam/api"
	"amalgam/split"
)

func TestCheck(t *testing.T) {
	for _, c := range append(wrong(), allowed()...) {
		if e := split.Check(c.m, c.k); e != c.e {
			t.Errorf("Check of %v and %v: %v; want %v", c.m, c.k, e, c.e)
		}
	}
}

// TestCheckByNumber: at each place of a list of each length, on either side, each number near those that may be.
func TestCheckByNumber(t *testing.T) {
	for length := 1; length <= 6; length++ {
		for at := range length {
			for n := -2; n <= 8; n++ {
				l := all(3, length)
				l[at] = n
				counts, takers := api.OK, api.OK
				switch {
				case length > 5:
					counts, takers = api.ErrSplitMany, api.ErrSplitMany
				case n < 0 || n > 6:
					counts, takers = api.ErrSplitCount, api.ErrSplitCount
				case n == 0:
					takers = api.ErrSplitCount
				}
				if e, f := split.Check(l, []int{2}), split.Check([]int{0}, l); e != counts || f != takers {
					t.Errorf("Check of %v as counts: %v, as takers: %v; want %v, %v", l, e, f, counts, takers)
				}
				if e, f := split.Check(l, nil), split.Check(nil, l); e != counts || f != takers {
					t.Errorf("Check of %v alone: %v, %v; want %v, %v", l, e, f, counts, takers)
				}
			}
		}
	}
}

// TestCheckWhichErrorComesFirst: a list that is too long, on either side, comes ahead of all numbers that may not be.
func TestCheckWhichErrorComesFirst(t *testing.T) {
	for _, n := range []int{-1, 0, 1, 6, 7} {
		for _, long := range [][]int{all(1, 6), all(n, 6), append(all(1, 5), n), append([]int{n}, all(1, 9)...)} {
			for _, short := range [][]int{nil, {n}, {1, n}, all(n, 5)} {
				if e, f := split.Check(long, short), split.Check(short, long); e != api.ErrSplitMany || f != api.ErrSplitMany {
					t.Errorf("Check of %v and %v: %v; the other way round: %v", long, short, e, f)
				}
			}
		}
	}
}

// TestCheckOfTheSpareRoom: numbers behind a list's end do not count.
func TestCheckOfTheSpareRoom(t *testing.T) {
	if e := split.Check(roomy(1, 2, 3, 4, 5), roomy(6, 5, 4, 3, 2)); e != api.OK {
		t.Error(e)
	}
	if e := split.Check(all(9, 9)[:0], all(9, 9)[:0]); e != api.OK {
		t.Error(e)
	}
}
