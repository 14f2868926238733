package units_test

import (
	"math"
	"testing"

	"amalgam/api"
	"amalgam/subst"
	"amalgam/units"
)

// The chapter's table of examples.
func TestExamples(t *testing.T) {
	u, vars := []int{1, 5}, []string{"X", "Y"}
	if n, few := units.Many(u, vars, 100), units.Many(u, vars, 4); n != 9 || few != 4 {
		t.Errorf("Many: %d; %d", n, few)
	}
	wantWay(t, u, vars, 0)
	wantWay(t, u, vars, 1, to("Y", 1))
	wantWay(t, u, vars, 5, to("X", 1), to("Y", 5))
	wantNoWay(t, u, vars, 9)
}

// lists are units and variables of all sorts: unlike, alike, rising or not.
func lists(do func(u []int, vars []string)) {
	for n := range 6 {
		for _, u := range [][]int{nil, {1}, {1, 5}, {5, 1}, {2, 2}, {-1, 0, 9}, {0, 1, 2, 3}} {
			do(u, someVars(n))
			alike := make([]string, n)
			do(u, alike)
			falling := someVars(n)
			for i := range falling {
				falling[i] = someVars(n)[n-1-i]
			}
			do(u, falling)
		}
	}
}

// P17.1: All goes through as many as Many says; the k-th of them is Way's of k.
func TestP171(t *testing.T) {
	lists(func(u []int, vars []string) {
		k := 0
		for binds := range units.All(u, vars) {
			got, ok := units.Way(u, vars, k)
			if !ok || written(got) != written(binds) {
				t.Fatalf("%v, %q, way %d: %s, %v; All tells %s", u, vars, k, written(got), ok, written(binds))
			}
			k++
		}
		for _, most := range []int{k, k + 1, 1 << 20, math.MaxInt} {
			if n := units.Many(u, vars, most); n != k {
				t.Fatalf("%v, %q: Many, %d at most: %d; All goes through %d", u, vars, most, n, k)
			}
		}
		wantNoWay(t, u, vars, k)
		wantNoWay(t, u, vars, -1)
	})
}

// P17.1 of as many ways as a search may have, and of one more.
func TestP171OfMany(t *testing.T) {
	for _, c := range [][2]int{{1, 12}, {3, 6}, {4095, 1}, {4096, 1}, {63, 2}, {16, 4}} {
		u, vars, k := someUnits(c[0]), someVars(c[1]), 0
		for binds := range units.All(u, vars) {
			got, ok := units.Way(u, vars, k)
			if !ok || written(got) != written(binds) {
				t.Fatalf("%d units, %d variables, way %d: %s, %v; All tells %s", c[0], c[1], k, written(got), ok, written(binds))
			}
			k++
		}
		if n := units.Many(u, vars, math.MaxInt); n != k {
			t.Errorf("%d units, %d variables: Many %d, All %d", c[0], c[1], n, k)
		}
		if n := units.Many(u, vars, api.MaxWays); n != min(k, api.MaxWays) {
			t.Errorf("%d units, %d variables, %d at most: %d", c[0], c[1], api.MaxWays, n)
		}
	}
}

// P17.2: no two ways have the same binds, if the units are unlike, and the names.
func TestP172(t *testing.T) {
	for u := range 6 {
		for n := range 6 {
			ways := map[string]int{}
			k := 0
			for binds := range units.All(someUnits(u), someVars(n)) {
				if other, twice := ways[written(binds)]; twice {
					t.Fatalf("%d units, %d variables: ways %d and %d are alike: %s", u, n, other, k, written(binds))
				}
				ways[written(binds)] = k
				k++
			}
			if n := units.Many(someUnits(u), someVars(n), math.MaxInt); len(ways) != n {
				t.Errorf("%d ways are unlike; Many says %d", len(ways), n)
			}
		}
	}
}

// P17.2 of great numbers: those that lie side by side, and those of which the last 32 bits are alike.
func TestP172OfGreatNumbers(t *testing.T) {
	m := newMaker(3)
	for u := 1; u < 6; u++ {
		places, vars, ways := someUnits(u), someVars(70), map[string]int{}
		for range 2000 {
			great := m.Int() >> 1
			for _, k := range []int{great, great + 1, great + 1<<32, great & math.MaxUint32} {
				binds, ok := units.Way(places, vars, k)
				if other, met := ways[written(binds)]; !ok || met && other != k {
					t.Fatalf("%d units: ways %d and %d are alike: %s, %v", u, other, k, written(binds), ok)
				}
				ways[written(binds)] = k
			}
		}
	}
}

// What a right signature's units make of names that rise is a substitution.
func TestWaysAreSubstitutions(t *testing.T) {
	s := wide()
	l, r := sy(and, v("X"), sy(sum, v("Y"), v("Z"))), sy(both, v("X"), v("_1"))
	u, vars := units.Of(s, l, r), []string{"X", "Y", "Z", "_1"}
	n := 0
	for binds := range units.All(u, vars) {
		if e, at := subst.Check(s, binds); e != api.OK {
			t.Fatalf("%s: %v at %d", written(binds), e, at)
		}
		n++
	}
	if n != 81 {
		t.Errorf("%d ways", n)
	}
}
