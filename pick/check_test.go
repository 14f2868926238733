package pick_test

import (
	"testing"

	"amalgam/api"
	"amalgam/pick"
)

func TestCheck(t *testing.T) {
	for _, c := range append(wrong(), allowed()...) {
		if e := pick.Check(c.rows, c.want); e != c.e {
			t.Errorf("Check of %v by %v: %v; want %v", c.rows, c.want, e, c.e)
		}
	}
}

// TestCheckByLength: each number of rows, of wants and of a row's numbers about what may be.
func TestCheckByLength(t *testing.T) {
	for rows := range 19 {
		for wants := range 13 {
			for columns := range 13 {
				want := api.OK
				switch {
				case rows > 16:
					want = api.ErrPickRows
				case wants > 10:
					want = api.ErrPickWant
				case rows > 0 && columns != wants:
					want = api.ErrPickRow
				}
				if e := pick.Check(tall(rows, 1, columns), all(1, wants)); e != want {
					t.Errorf("Check of %d rows of %d, %d wants: %v; want %v", rows, columns, wants, e, want)
				}
			}
		}
	}
}

// TestCheckByNumber: at each place each number near those that may be.
func TestCheckByNumber(t *testing.T) {
	for at := range 10 {
		for n := -3; n <= 5; n++ {
			l, want := all(0, 10), api.OK
			l[at] = n
			if n < 0 || n > 2 {
				want = api.ErrPickWant
			}
			if e := pick.Check(tall(3, 1, 10), l); e != want {
				t.Errorf("Check by %v: %v; want %v", l, e, want)
			}
		}
		for row := range 16 {
			for _, n := range []int{-2, -1, 0, 1, 2, 3, count - 1, count, count + 1, count + 2} {
				l, want := tall(16, 1, 10), api.OK
				l[row][at] = n
				if n < 0 || n > 1048576 {
					want = api.ErrPickRow
				}
				if e := pick.Check(l, all(2, 10)); e != want {
					t.Errorf("Check of %d at %d of row %d: %v; want %v", n, at, row, e, want)
				}
			}
		}
	}
}
