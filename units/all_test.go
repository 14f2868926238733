package units_test

import (
	"iter"
	"testing"

	"amalgam/api"
	"amalgam/units"
)

func TestAll(t *testing.T) {
	want := [][]api.Bind{
		nil, {to("Y", 1)}, {to("Y", 5)},
		{to("X", 1)}, {to("X", 1), to("Y", 1)}, {to("X", 1), to("Y", 5)},
		{to("X", 5)}, {to("X", 5), to("Y", 1)}, {to("X", 5), to("Y", 5)},
	}
	wantWays(t, told(units.All([]int{1, 5}, []string{"X", "Y"}), -1), want, "All")
	wantWays(t, told(units.All([]int{3}, []string{"X"}), -1), [][]api.Bind{nil, {to("X", 3)}}, "All of one and one")
}

// TestAllByWords holds All against all rows of digits, of rising names and of others, of unlike units and of alike ones.
func TestAllByWords(t *testing.T) {
	for u := range 6 {
		for n := range 6 {
			wantWays(t, told(units.All(someUnits(u), someVars(n)), -1), allWays(someUnits(u), someVars(n)), "All of", u, n)
		}
	}
	for _, u := range [][]int{{1, 5}, {5, 1}, {3, 3, 3}, {-1}} {
		for _, vars := range [][]string{{"Y", "X"}, {"X", "X"}, {"X", "", "X"}} {
			wantWays(t, told(units.All(u, vars), -1), allWays(u, vars), "All of", u, vars)
		}
	}
}

// TestAllOfNoUnitsOrVariables: one way, that binds nothing.
func TestAllOfNoUnitsOrVariables(t *testing.T) {
	single := [][]api.Bind{nil}
	wantWays(t, told(units.All(nil, nil), -1), single, "neither")
	wantWays(t, told(units.All([]int{}, []string{}), -1), single, "empty lists")
	wantWays(t, told(units.All(nil, []string{"X", "Y"}), -1), single, "no units")
	wantWays(t, told(units.All(nil, someVars(100000)), -1), single, "no units, many variables")
	wantWays(t, told(units.All([]int{1, 5}, nil), -1), single, "no variables")
	wantWays(t, told(units.All(someUnits(100000), nil), -1), single, "no variables, many units")
}

// TestAllLeftEarlyAndGoneThroughAgain: left at each way, and each time the whole again.
func TestAllLeftEarlyAndGoneThroughAgain(t *testing.T) {
	u, vars := []int{1, 5, 7}, []string{"X", "Y", "Z"}
	want := allWays(u, vars)
	walk := units.All(u, vars)
	for stop := 1; stop <= len(want); stop++ {
		wantWays(t, told(walk, stop), want[:stop], "left at", stop)
		wantWays(t, told(walk, -1), want, "again behind", stop)
		asked := 0
		walk(func([]api.Bind) bool { asked++; return asked < stop })
		if asked != stop {
			t.Errorf("asked %d times, though it was left at %d", asked, stop)
		}
	}
}

func TestAllWithinItself(t *testing.T) {
	u, vars := []int{1, 5}, []string{"X", "Y", "Z"}
	want := allWays(u, vars)
	walk := units.All(u, vars)
	var outer [][]api.Bind
	for binds := range walk {
		outer = append(outer, binds)
		wantWays(t, told(walk, -1), want, "within itself")
		wantWays(t, told(walk, 4), want[:4], "within itself, left early")
	}
	wantWays(t, outer, want, "around itself")
}

// TestAllSideBySide: two walks of one iterator go on by turns, the one ahead of the other.
func TestAllSideBySide(t *testing.T) {
	u, vars := []int{1, 5}, []string{"X", "Y"}
	want := allWays(u, vars)
	walk := units.All(u, vars)
	one, stopOne := iter.Pull(walk)
	other, stopOther := iter.Pull(walk)
	defer stopOne()
	defer stopOther()
	one()
	for k := range want {
		y, ok := other()
		if !ok {
			t.Fatalf("way %d is not told", k)
		}
		wantBinds(t, y, want[k], "the one behind, way", k)
		if x, ok := one(); ok != (k+1 < len(want)) {
			t.Fatalf("behind way %d: %v", k, ok)
		} else if ok {
			wantBinds(t, x, want[k+1], "the one ahead, way", k+1)
		}
	}
}

// TestAllOfMoreThanAnyInt: it is begun and left, as any other one.
func TestAllOfMoreThanAnyInt(t *testing.T) {
	u, vars := []int{1, 5}, someVars(1000)
	for k, binds := range told(units.All(u, vars), 1000) {
		wantBinds(t, binds, byDigits(u, vars, bigDigits(k, len(vars), 3)), "way", k)
	}
	if n := len(told(units.All(someUnits(255), someVars(8)), 3000)); n != 3000 {
		t.Errorf("of 2 to the 64: %d ways", n)
	}
	if n := len(told(units.All([]int{1}, someVars(100000)), 3000)); n != 3000 {
		t.Errorf("of many variables: %d ways", n)
	}
}

// P3: what All goes through are the lists of the call, whatever becomes of them.
func TestAllDoesNotKeepItsLists(t *testing.T) {
	want := allWays([]int{1, 5}, []string{"X", "Y"})
	u, vars := []int{1, 5}, []string{"X", "Y"}
	walk := units.All(u, vars)
	u[0], vars[1] = 77, "Spoilt"
	wantWays(t, told(walk, -1), want, "changed ahead of the walk")
	u, vars = []int{1, 5}, []string{"X", "Y"}
	var l [][]api.Bind
	for binds := range units.All(u, vars) {
		l = append(l, binds)
		u[1], vars[0] = 77, "Spoilt"
	}
	wantWays(t, l, want, "changed while it goes on")
}

// P3: what All tells may be changed; neither this walk nor the next one goes another way.
func TestAllTellsNewMemory(t *testing.T) {
	u, vars := []int{1, 5}, []string{"X", "Y", "Z"}
	want := allWays(u, vars)
	walk := units.All(u, vars)
	for range 2 {
		k := 0
		for binds := range walk {
			wantBinds(t, binds, want[k], "way", k)
			spoil(binds)
			k++
		}
	}
	l := told(walk, -1)
	for k := range l {
		spoil(l[k])
		wantWays(t, l[k+1:], want[k+1:], "behind a spoilt one")
	}
}
