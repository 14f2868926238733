package units_test

import (
	"math"
	"math/big"
	"testing"

	"amalgam/units"
)

func TestMany(t *testing.T) {
	for _, c := range []struct{ units, vars, most, want int }{
		// most below 0, 0, fewer, just as many, more
		{2, 2, math.MinInt, 0}, {2, 2, -1, 0}, {2, 2, 0, 0}, {2, 2, 1, 1}, {2, 2, 8, 8}, {2, 2, 9, 9}, {2, 2, 10, 9}, {2, 2, 100, 9}, {2, 2, math.MaxInt, 9},
		{1, 3, 7, 7}, {1, 3, 8, 8}, {1, 3, 9, 8}, {3, 1, 3, 3}, {3, 1, 4, 4}, {3, 1, 5, 4},
		// no units
		{0, 5, -1, 0}, {0, 5, 0, 0}, {0, 5, 1, 1}, {0, 5, 2, 1}, {0, 5, math.MaxInt, 1}, {0, 100000, math.MaxInt, 1}, {0, 100000, 0, 0},
		// no variables
		{5, 0, -1, 0}, {5, 0, 0, 0}, {5, 0, 1, 1}, {5, 0, 2, 1}, {5, 0, math.MaxInt, 1}, {100000, 0, math.MaxInt, 1},
		{0, 0, math.MinInt, 0}, {0, 0, 0, 0}, {0, 0, 1, 1}, {0, 0, math.MaxInt, 1},
		// many units
		{100000, 1, math.MaxInt, 100001}, {100000, 1, 100000, 100000}, {100000, 2, math.MaxInt, 100001 * 100001},
		// the greatest number of ways that an int can tell, and the next one
		{1, 62, math.MaxInt, 1 << 62}, {1, 62, 1 << 62, 1 << 62}, {1, 62, 1<<62 - 1, 1<<62 - 1}, {1, 63, math.MaxInt, math.MaxInt},
		{2, 39, math.MaxInt, 4052555153018976267}, {2, 40, math.MaxInt, math.MaxInt},
		// greater than any int, and such that a product that wraps round would be 0, 1 or small
		{1, 64, math.MaxInt, math.MaxInt}, {1, 64, 5, 5}, {1, 64, 0, 0}, {1, 64, -1, 0}, {1, 65, 9, 9}, {1, 100000, math.MaxInt, math.MaxInt},
		{255, 8, math.MaxInt, math.MaxInt}, {255, 8, 3, 3}, {65535, 4, math.MaxInt, math.MaxInt}, {65535, 4, 4096, 4096}, {65535, 100, 4096, 4096},
		{2, 100000, math.MaxInt, math.MaxInt}, {2, 41, math.MaxInt - 1, math.MaxInt - 1},
	} {
		if got := units.Many(someUnits(c.units), someVars(c.vars), c.most); got != c.want {
			t.Errorf("%d units, %d variables, %d at most: %d; want %d", c.units, c.vars, c.most, got, c.want)
		}
	}
}

// TestManyByWords holds Many against a power that knows no bound.
func TestManyByWords(t *testing.T) {
	for u := range 12 {
		for n := range 80 {
			ways := power(u, n)
			bounds := []int{math.MinInt, -1, 0, 1, 2, 100, 4096, 4097, math.MaxInt - 1, math.MaxInt}
			if ways.IsInt64() {
				k := int(ways.Int64())
				bounds = append(bounds, k-1, k, k+min(1, math.MaxInt-k))
			}
			for _, most := range bounds {
				want := big.NewInt(int64(max(most, 0)))
				if ways.Cmp(want) < 0 {
					want = ways
				}
				if got := units.Many(someUnits(u), someVars(n), most); want.Cmp(big.NewInt(int64(got))) != 0 {
					t.Fatalf("%d units, %d variables, %d at most: %d; want %v", u, n, most, got, want)
				}
			}
		}
	}
}

// TestManyGoesByLengthsAlone: which units and names they are does not count.
func TestManyGoesByLengthsAlone(t *testing.T) {
	for _, u := range [][]int{{1, 5}, {5, 1}, {3, 3}, {-1, math.MaxInt}} {
		for _, vars := range [][]string{{"X", "Y"}, {"Y", "X"}, {"X", "X"}, {"", "x"}} {
			if got := units.Many(u, vars, 100); got != 9 {
				t.Errorf("%v, %q: %d", u, vars, got)
			}
		}
	}
}
