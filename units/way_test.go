package units_test

import (
	"math"
	"slices"
	"testing"

	"amalgam/api"
	"amalgam/units"
)

func wantWay(t *testing.T, u []int, vars []string, k int, want ...api.Bind) {
	t.Helper()
	got, ok := units.Way(u, vars, k)
	if !ok {
		t.Errorf("way %d of %v and %q is none", k, u, vars)
	}
	wantBinds(t, got, want, "way", k, "of", u, vars)
}

// wantNoWay: beside false there is nothing.
func wantNoWay(t *testing.T, u []int, vars []string, k int) {
	t.Helper()
	if got, ok := units.Way(u, vars, k); ok || len(got) > 0 {
		t.Errorf("way %d of %v and %q: %v, %v", k, u, vars, got, ok)
	}
}

func TestWay(t *testing.T) {
	u, vars := []int{1, 5}, []string{"X", "Y"}
	wantWay(t, u, vars, 0)
	wantWay(t, u, vars, 1, to("Y", 1))
	wantWay(t, u, vars, 2, to("Y", 5))
	wantWay(t, u, vars, 3, to("X", 1))
	wantWay(t, u, vars, 4, to("X", 1), to("Y", 1))
	wantWay(t, u, vars, 5, to("X", 1), to("Y", 5))
	wantWay(t, u, vars, 6, to("X", 5))
	wantWay(t, u, vars, 7, to("X", 5), to("Y", 1))
	wantWay(t, u, vars, 8, to("X", 5), to("Y", 5))
	wantNoWay(t, u, vars, 9)
	wantWay(t, []int{4}, []string{"X", "Y", "Z"}, 5, to("X", 4), to("Z", 4))
	wantWay(t, []int{0}, []string{"X"}, 1, to("X", 0))
}

// TestWayThatIsNone: below 0, behind the last one, and far behind.
func TestWayThatIsNone(t *testing.T) {
	for u := range 5 {
		for n := range 5 {
			last := int(power(u, n).Int64()) - 1
			for _, k := range []int{math.MinInt, math.MinInt + 1, -1 << 32, -last - 1, -2, -1, last + 1, last + 2, 2 * (last + 1), last + 1<<32 + 1, math.MaxInt - 1, math.MaxInt} {
				wantNoWay(t, someUnits(u), someVars(n), k)
			}
		}
	}
}

func TestWayFirstAndLast(t *testing.T) {
	for u := range 6 {
		for n := range 6 {
			places, vars := someUnits(u), someVars(n)
			wantWay(t, places, vars, 0)
			var want []api.Bind
			for _, name := range vars {
				if u > 0 {
					want = append(want, to(name, places[u-1]))
				}
			}
			wantWay(t, places, vars, int(power(u, n).Int64())-1, want...)
		}
	}
}

func TestWayOfNoUnits(t *testing.T) {
	for _, vars := range [][]string{nil, {}, {"X"}, {"X", "Y"}, someVars(100000)} {
		wantWay(t, nil, vars, 0)
		wantWay(t, []int{}, vars, 0)
		for _, k := range []int{math.MinInt, -1, 1, 2, math.MaxInt} {
			if got, ok := units.Way(nil, vars, k); ok || len(got) > 0 {
				t.Errorf("way %d of no units and %d variables: %v, %v", k, len(vars), got, ok)
			}
		}
	}
}

func TestWayOfNoVariables(t *testing.T) {
	for _, u := range [][]int{nil, {1}, {1, 5}, someUnits(1000)} {
		for _, vars := range [][]string{nil, {}} {
			wantWay(t, u, vars, 0)
			for _, k := range []int{math.MinInt, -1, 1, 2, len(u) + 1, len(u) + 2, math.MaxInt} {
				if got, ok := units.Way(u, vars, k); ok || len(got) > 0 {
					t.Errorf("way %d of %d units and no variables: %v, %v", k, len(u), got, ok)
				}
			}
		}
	}
}

// TestWayOfSmallNumbers holds Way against all rows of digits.
func TestWayOfSmallNumbers(t *testing.T) {
	for u := range 5 {
		for n := range 6 {
			places, vars := someUnits(u), someVars(n)
			for k, row := range rows(n, u+1) {
				wantWay(t, places, vars, k, byDigits(places, vars, row)...)
			}
		}
	}
}

// TestWayOfGreatNumbers holds Way against digits of numbers that know no bound, just below and above as many ways as there are.
func TestWayOfGreatNumbers(t *testing.T) {
	m := newMaker(2)
	for u := 1; u < 12; u++ {
		for _, n := range []int{1, 2, 15, 20, 39, 40, 62, 63, 64, 65, 100} {
			places, vars, ways := someUnits(u), someVars(n), power(u, n)
			ks := []int{0, 1, u, u + 1, 1 << 31, 1<<32 - 1, 1 << 62, math.MaxInt - 1, math.MaxInt, m.Int(), m.Int() >> 20, m.Int() >> 40}
			if ways.IsInt64() {
				ks = append(ks, int(ways.Int64())-1, int(ways.Int64()))
			}
			for _, k := range ks {
				if ways.IsInt64() && int64(k) >= ways.Int64() {
					wantNoWay(t, places, vars, k)
				} else {
					wantWay(t, places, vars, k, byDigits(places, vars, bigDigits(k, n, u+1))...)
				}
			}
		}
	}
}

// TestWayOfMoreThanAnyInt: the greatest k is a way there, and the last one of 63 variables and one unit.
func TestWayOfMoreThanAnyInt(t *testing.T) {
	vars := someVars(100)
	var want []api.Bind
	for _, name := range vars[37:] {
		want = append(want, to(name, 9))
	}
	wantWay(t, []int{9}, vars, math.MaxInt, want...)
	wantWay(t, []int{9}, vars[37:], math.MaxInt, want...)
	wantNoWay(t, []int{9}, vars[38:], math.MaxInt)
	wantWay(t, []int{9}, vars, 1, to(vars[99], 9))
	wantWay(t, []int{9}, vars, 1<<62, to(vars[37], 9))
	// As many ways as wrap round to 0: k is below their number all the same.
	wantWay(t, someUnits(255), vars[:8], 256, to(vars[6], 7*255))
	wantWay(t, someUnits(65535), vars[:4], 0)
	wantWay(t, someUnits(65535), vars[:4], 1<<62, to(vars[0], someUnits(65535)[1<<14-1]))
}

// TestWayOfNamesThatDoNotRise: each digit has its name, whatever the names are.
func TestWayOfNamesThatDoNotRise(t *testing.T) {
	u := []int{1, 5}
	wantWay(t, u, []string{"Y", "X"}, 1, to("X", 1))
	wantWay(t, u, []string{"Y", "X"}, 5, to("Y", 1), to("X", 5))
	wantWay(t, u, []string{"X", "X"}, 0)
	wantWay(t, u, []string{"X", "X"}, 1, to("X", 1))
	wantWay(t, u, []string{"X", "X"}, 3, to("X", 1))
	wantWay(t, u, []string{"X", "X"}, 5, to("X", 1), to("X", 5))
	wantNoWay(t, u, []string{"X", "X"}, 9)
	wantWay(t, u, []string{"X", "A", "X"}, 9+2*3+1, to("X", 1), to("A", 5), to("X", 1))
	wantWay(t, u, []string{"", "no name", "\xff"}, 26, to("", 5), to("no name", 5), to("\xff", 5))
}

// TestWayOfAnyUnits: alike ones, such as do not rise, and places that are none.
func TestWayOfAnyUnits(t *testing.T) {
	vars := []string{"X", "Y"}
	wantWay(t, []int{5, 1}, vars, 5, to("X", 5), to("Y", 1))
	wantWay(t, []int{3, 3}, vars, 5, to("X", 3), to("Y", 3))
	wantWay(t, []int{math.MinInt, -1, math.MaxInt}, vars, 7, to("X", math.MinInt), to("Y", math.MaxInt))
	wantWay(t, []int{math.MinInt, -1, math.MaxInt}, vars, 8, to("X", -1))
}

// TestWayOfTheSpareRoom: units and variables behind a list's end do not count.
func TestWayOfTheSpareRoom(t *testing.T) {
	u, vars := []int{1, 5, 7}[:2], []string{"X", "Y", "Z"}[:2]
	wantWay(t, u, vars, 5, to("X", 1), to("Y", 5))
	wantNoWay(t, u, vars, 9)
	wantNoWay(t, u[:0], vars, 1)
	wantNoWay(t, u, vars[:0], 1)
}

// TestWayOfLongLists: as long as may be wished, a way is told soon.
func TestWayOfLongLists(t *testing.T) {
	u, vars := someUnits(100000), someVars(100000)
	wantWay(t, u, vars, 0)
	if got, ok := units.Way(u, vars, 100001+100000); !ok || !slices.EqualFunc(got, []api.Bind{to(vars[99998], u[0]), to(vars[99999], u[99999])}, func(x, y api.Bind) bool { return x.Var == y.Var && x.T.Sym == y.T.Sym }) {
		t.Errorf("%v, %v", got, ok)
	}
	for range 100000 {
		units.Way(u, vars, math.MaxInt)
	}
}
