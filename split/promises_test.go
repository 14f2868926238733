package split_test

import (
	"math"
	"slices"
	"testing"

	"amalgam/api"
	"amalgam/split"
)

// P19.1: the chapter's table of examples.
func TestP191Examples(t *testing.T) {
	wantWays(t, told(split.All([]int{1, 1}, []int{1, 1}, false), -1), [][][]int{{{0, 1}, {1, 0}}, {{1, 0}, {0, 1}}}, "1 1 to 1 1, not empty")
	wantWays(t, told(split.All([]int{1, 1}, []int{1, 1}, true), -1), [][][]int{{{0, 0}, {1, 1}}, {{0, 1}, {1, 0}}, {{1, 0}, {0, 1}}, {{1, 1}, {0, 0}}}, "the same, empty")
	wantWays(t, told(split.All([]int{3}, []int{1, 2}, false), -1), [][][]int{{{1}, {1}}}, "3 to 1 2")
	wantWays(t, told(split.All([]int{4}, []int{2, 2}, false), -1), [][][]int{{{1}, {1}}}, "4 to 2 2")
	wantCount(t, all(6, 5), all(1, 5), true, 1000, 1000, api.OK)
	wantWays(t, told(split.All(nil, nil, false), -1), [][][]int{{}}, "none to none")
	wantWays(t, told(split.All([]int{1}, nil, false), -1), nil, "1 to none")
	wantWays(t, told(split.All([]int{0}, []int{1}, false), -1), nil, "0 to 1, not empty")
	e, f, g := split.Check([]int{7}, []int{1}), split.Check([]int{1}, []int{0}), split.Check(all(1, 6), []int{0})
	if e != api.ErrSplitCount || f != api.ErrSplitCount || g != api.ErrSplitMany {
		t.Errorf("Check: %v, %v, %v", e, f, g)
	}
}

// P19.1: the calls say the same: All goes through some just where Check says OK, through ways alone, each behind the one ahead, and Count counts them.
func TestP191CallsAgree(t *testing.T) {
	m := newMaker(3)
	met := [3]int{}
	for range 6000 {
		counts, takers, empty := m.list(5+m.Intn(2), -m.Intn(2), 3+m.Intn(4)), m.list(5, 1-m.Intn(2), 1+m.Intn(6)), m.Intn(2) == 0
		ways := told(split.All(counts, takers, empty), 3000)
		e := split.Check(counts, takers)
		if e != api.OK {
			met[0]++
			wantWays(t, ways, nil, "All of", counts, takers)
			wantCount(t, counts, takers, empty, 9, 0, e)
			continue
		}
		for i, way := range ways {
			if !isWay(counts, takers, empty, way) || i > 0 && order(ways[i-1], way) >= 0 {
				t.Fatalf("All of %v and %v, %v: %v at %d", counts, takers, empty, way, i)
			}
		}
		wantCount(t, counts, takers, empty, 3000, len(ways), api.OK)
		if len(ways) == 3000 {
			met[2]++
		} else if len(ways) > 1 {
			met[1]++
		}
	}
	if slices.Min(met[:]) < 50 {
		t.Errorf("how often they might not be, were few, were many: %v", met)
	}
}

// P19.2: where parts may be empty, there are as many ways as those of each kind alone, times one another.
func TestP192KindByKind(t *testing.T) {
	m := newMaker(4)
	met := 0
	for range 3000 {
		counts, takers := m.list(5, 0, 6), m.list(5, 1, 1+m.Intn(6))
		each := 1
		for _, n := range counts {
			one := len(told(split.All([]int{n}, takers, true), -1))
			wantCount(t, []int{n}, takers, true, math.MaxInt, one, api.OK)
			each *= one
		}
		wantCount(t, counts, takers, true, math.MaxInt, each, api.OK)
		if each > 4000 {
			continue
		}
		if n := len(told(split.All(counts, takers, true), -1)); n != each {
			t.Fatalf("All of %v and %v: %d; of each kind alone %d", counts, takers, n, each)
		}
		if each > 1 && len(counts) > 1 {
			met++
		}
	}
	if met < 300 {
		t.Errorf("only %d had some ways of several kinds", met)
	}
}

// P19.2 of each kind's ways themselves: any one goes with any one of another kind.
func TestP192EachWithEach(t *testing.T) {
	for _, k := range [][]int{{1}, {1, 2}, {2, 1, 1}, {3, 2, 2}} {
		for a := range 7 {
			for b := range 7 {
				var want [][][]int
				for v := range split.All([]int{a}, k, true) {
					for w := range split.All([]int{b}, k, true) {
						way := make([][]int, len(k))
						for i := range k {
							way[i] = slices.Concat(v[i], w[i])
						}
						want = append(want, way)
					}
				}
				slices.SortFunc(want, order)
				wantWays(t, told(split.All([]int{a, b}, k, true), -1), want, "All of", a, b, k)
			}
		}
	}
}

// P19.3: takers in another order have the same ways, in that order.
func TestP193Whoever(t *testing.T) {
	m := newMaker(5)
	met := [2]int{}
	for range 3000 {
		counts, takers := m.list(5, 0, 6), m.list(5, 1, 4)
		places := m.Perm(len(takers))
		other := make([]int, len(takers))
		for i, place := range places {
			other[i] = takers[place]
		}
		for which, empty := range both() {
			n, _ := split.Count(counts, takers, empty, math.MaxInt)
			wantCount(t, counts, other, empty, math.MaxInt, n, api.OK)
			if n > 3000 {
				continue
			}
			var want [][][]int
			for way := range split.All(counts, takers, empty) {
				moved := make([][]int, len(way))
				for i, place := range places {
					moved[i] = way[place]
				}
				want = append(want, moved)
			}
			slices.SortFunc(want, order)
			wantWays(t, told(split.All(counts, other, empty), -1), want, "All of", counts, takers, places, empty)
			if len(want) > 1 && len(takers) > 2 && !slices.Equal(takers, other) {
				met[which]++
			}
		}
	}
	if met[0] < 50 || met[1] < 50 {
		t.Errorf("how often there were some ways in another order: %v", met)
	}
}

// What the language's rules ask of All: none of it hangs on a walk's having been left.
func TestLeftWalksLeaveNothing(t *testing.T) {
	want := byKinds([]int{2, 2}, []int{1, 1}, true)
	for range 100 {
		for way := range split.All(all(6, 5), all(1, 5), false) {
			spoil(way)
			break
		}
		wantWays(t, told(split.All([]int{2, 2}, []int{1, 1}, true), -1), want, "behind walks that were left")
	}
}
