package split_test

import (
	"slices"
	"testing"

	"amalgam/split"
)

func TestAll(t *testing.T) {
	for _, c := range []struct {
		m, k  []int
		empty bool
		want  [][][]int
	}{
		{[]int{1, 1}, []int{1, 1}, false, [][][]int{{{0, 1}, {1, 0}}, {{1, 0}, {0, 1}}}},
		{[]int{1, 1}, []int{1, 1}, true, [][][]int{{{0, 0}, {1, 1}}, {{0, 1}, {1, 0}}, {{1, 0}, {0, 1}}, {{1, 1}, {0, 0}}}},
		{[]int{3}, []int{1, 2}, false, [][][]int{{{1}, {1}}}},
		{[]int{3}, []int{1, 2}, true, [][][]int{{{1}, {1}}, {{3}, {0}}}},
		{[]int{3}, []int{2, 1}, true, [][][]int{{{0}, {3}}, {{1}, {1}}}},
		{[]int{4}, []int{2, 2}, false, [][][]int{{{1}, {1}}}},
		{[]int{4}, []int{2, 2}, true, [][][]int{{{0}, {2}}, {{1}, {1}}, {{2}, {0}}}},
		{[]int{2, 1}, []int{1}, false, [][][]int{{{2, 1}}}},
		{[]int{2, 1}, []int{1}, true, [][][]int{{{2, 1}}}},
		{[]int{4, 2, 6}, []int{2}, false, [][][]int{{{2, 1, 3}}}},
		{[]int{0, 3}, []int{3}, false, [][][]int{{{0, 1}}}},
		{[]int{2, 1}, []int{1, 2}, false, [][][]int{{{0, 1}, {1, 0}}}},
		{[]int{2, 1}, []int{1, 2}, true, [][][]int{{{0, 1}, {1, 0}}, {{2, 1}, {0, 0}}}},
		{[]int{6}, []int{6}, false, [][][]int{{{1}}}},
		{[]int{6}, []int{1}, false, [][][]int{{{6}}}},
		{[]int{3}, []int{1, 1, 1}, false, [][][]int{{{1}, {1}, {1}}}},
		{[]int{2, 0, 1}, []int{1, 1}, false, [][][]int{{{0, 0, 1}, {2, 0, 0}}, {{1, 0, 0}, {1, 0, 1}}, {{1, 0, 1}, {1, 0, 0}}, {{2, 0, 0}, {0, 0, 1}}}},
	} {
		wantWays(t, told(split.All(c.m, c.k, c.empty), -1), c.want, "All of", c.m, c.k, c.empty)
	}
}

// TestAllOfNoTakers: one way, of no parts, if all counts are 0; parts may be empty or not.
func TestAllOfNoTakers(t *testing.T) {
	one := [][][]int{{}}
	for _, empty := range both() {
		for _, k := range [][]int{nil, {}} {
			for _, m := range [][]int{nil, {}, {0}, {0, 0}, all(0, 5)} {
				wantWays(t, told(split.All(m, k, empty), -1), one, "counts of 0", m, empty)
			}
			for _, m := range [][]int{{1}, {6}, {0, 1}, {1, 0}, {0, 0, 0, 0, 6}, all(1, 5)} {
				wantWays(t, told(split.All(m, k, empty), -1), nil, "counts that are not", m, empty)
			}
		}
	}
}

// TestAllOfNoKinds: all parts are empty, as many as there are takers, or there is no way.
func TestAllOfNoKinds(t *testing.T) {
	for often := 1; often <= 5; often++ {
		for n := 1; n <= 6; n++ {
			for _, m := range [][]int{nil, {}} {
				wantWays(t, told(split.All(m, all(n, often), true), -1), [][][]int{make([][]int, often)}, "empty", n, often)
				wantWays(t, told(split.All(m, all(n, often), false), -1), nil, "not empty", n, often)
			}
		}
	}
}

// TestAllOfNoThings: kinds of which there is nothing at all.
func TestAllOfNoThings(t *testing.T) {
	for kinds := 1; kinds <= 5; kinds++ {
		for takers := 1; takers <= 5; takers++ {
			way := slices.Repeat([][]int{all(0, kinds)}, takers)
			wantWays(t, told(split.All(all(0, kinds), all(6, takers), true), -1), [][][]int{way}, "empty", kinds, takers)
			wantWays(t, told(split.All(all(0, kinds), all(1, takers), false), -1), nil, "not empty", kinds, takers)
		}
	}
}

// TestAllOfWhatMayNotBe goes through none, and is a walk all the same.
func TestAllOfWhatMayNotBe(t *testing.T) {
	for _, c := range wrong() {
		for _, empty := range both() {
			walk := split.All(c.m, c.k, empty)
			if walk == nil {
				t.Fatalf("All of %v and %v is nil", c.m, c.k)
			}
			wantWays(t, told(walk, -1), nil, "All of", c.m, c.k, empty)
		}
	}
}

// TestAllOfCountsThatNoPartsMake: some kind can't be made up, or there are too few things for all takers.
func TestAllOfCountsThatNoPartsMake(t *testing.T) {
	for _, c := range []struct{ m, k []int }{
		{[]int{3}, []int{2, 2}}, {[]int{1}, []int{2}}, {[]int{5}, []int{6}}, {[]int{5}, all(2, 5)}, {[]int{4}, []int{3, 5}}, {[]int{5}, []int{4, 3}},
		{[]int{6, 6, 6, 6, 5}, all(2, 5)}, {[]int{1, 6, 6, 6, 6}, all(2, 5)}, {[]int{6, 6, 5, 6, 6}, []int{2, 4, 6, 2, 4}},
	} {
		for _, empty := range both() {
			wantWays(t, told(split.All(c.m, c.k, empty), -1), nil, "All of", c.m, c.k, empty)
		}
	}
	for _, c := range []struct{ m, k []int }{
		{[]int{1}, []int{1, 1}}, {[]int{6}, []int{6, 6}}, {[]int{6}, []int{1, 6}}, {[]int{6}, []int{6, 1}}, {[]int{1, 1}, []int{1, 1, 1}}, {[]int{4}, all(1, 5)}, {[]int{5}, []int{1, 2, 3}},
		{[]int{2, 2}, []int{2, 2, 2}}, {[]int{0, 0, 1}, []int{1, 1}}, {[]int{1, 1, 1, 1}, all(1, 5)},
	} {
		wantWays(t, told(split.All(c.m, c.k, false), -1), nil, "All of", c.m, c.k, "not empty")
		if len(told(split.All(c.m, c.k, true), -1)) == 0 {
			t.Errorf("All of %v and %v, empty: none", c.m, c.k)
		}
	}
}

// TestAllByWords holds All against all lists of parts of small numbers, of all short counts and takers.
func TestAllByWords(t *testing.T) {
	for _, size := range []struct{ kinds, takers, most, often int }{{0, 0, 0, 1}, {0, 3, 0, 2}, {3, 0, 2, 1}, {1, 1, 6, 6}, {1, 2, 6, 6}, {1, 3, 6, 3}, {2, 1, 6, 6}, {2, 2, 3, 3}, {3, 1, 4, 4}, {2, 3, 2, 2}, {3, 2, 2, 2}} {
		for _, m := range lists(size.kinds, 0, size.most) {
			for _, k := range lists(size.takers, 1, size.often) {
				for _, empty := range both() {
					wantWays(t, told(split.All(m, k, empty), -1), filtered(m, k, empty), "All of", m, k, empty)
				}
			}
		}
	}
}

// TestAllByKinds holds All against another search, of all numbers of kinds and takers.
func TestAllByKinds(t *testing.T) {
	m := newMaker(1)
	met := [2]int{}
	for range 4000 {
		counts, takers := m.list(5, 0, 6), m.list(5, 1, 6)
		for i, empty := range both() {
			if counted(counts, takers, true) > 5000 {
				continue
			}
			want := byKinds(counts, takers, empty)
			wantWays(t, told(split.All(counts, takers, empty), -1), want, "All of", counts, takers, empty)
			if len(want) > 1 && len(takers) > 1 {
				met[i]++
			}
		}
	}
	if met[0] < 100 || met[1] < 100 {
		t.Errorf("how often there were some ways, not empty and empty: %v", met)
	}
}

// TestAllLeftEarlyAndGoneThroughAgain: left at each way, and each time the whole again.
func TestAllLeftEarlyAndGoneThroughAgain(t *testing.T) {
	m, k := []int{2, 1, 3}, []int{1, 2, 1}
	for _, empty := range both() {
		want := byKinds(m, k, empty)
		walk := split.All(m, k, empty)
		for stop := 1; stop <= len(want); stop++ {
			wantWays(t, told(walk, stop), want[:stop], "left at", stop, empty)
			wantWays(t, told(walk, -1), want, "again behind", stop, empty)
			asked := 0
			walk(func([][]int) bool { asked++; return asked < stop })
			if asked != stop {
				t.Errorf("asked %d times, though it was left at %d", asked, stop)
			}
		}
	}
}

func TestAllWithinItself(t *testing.T) {
	m, k := []int{2, 2}, []int{1, 2, 1}
	for _, empty := range both() {
		want := byKinds(m, k, empty)
		walk := split.All(m, k, empty)
		var outer [][][]int
		for way := range walk {
			outer = append(outer, way)
			wantWays(t, told(walk, -1), want, "within itself", empty)
			wantWays(t, told(walk, 2), want[:2], "within itself, left early", empty)
		}
		wantWays(t, outer, want, "around itself", empty)
	}
}

// TestAllReadsWhenCalled: what m and k become behind the call does not count, ahead of the walk or while it goes on.
func TestAllReadsWhenCalled(t *testing.T) {
	m, k := []int{2, 3}, []int{1, 2}
	for _, empty := range both() {
		want := byKinds([]int{2, 3}, []int{1, 2}, empty)
		walk := split.All(m, k, empty)
		m[0], m[1], k[0], k[1] = 6, 7, 2, 0
		wantWays(t, told(walk, -1), want, "changed ahead of the walk", empty)
		m[0], m[1], k[0], k[1] = 2, 3, 1, 2
		var got [][][]int
		for way := range split.All(m, k, empty) {
			got = append(got, way)
			m[0], m[1], k[0], k[1] = 0, 1, 3, 3
		}
		wantWays(t, got, want, "changed while it goes on", empty)
		m[0], m[1], k[0], k[1] = 2, 7, 1, 2
		walk = split.All(m, k, empty)
		m[0], m[1], k[0], k[1] = 2, 3, 1, 2
		wantWays(t, told(walk, -1), nil, "made right behind the call", empty)
	}
}

// TestAllOfVeryMany: where there is no end of ways, the first ones come at once, and each is behind the one ahead.
func TestAllOfVeryMany(t *testing.T) {
	for _, c := range []struct{ m, k []int }{
		{all(6, 5), all(1, 5)}, {all(5, 5), all(1, 5)}, {all(6, 5), []int{1, 1, 1, 1, 6}}, {[]int{6, 5, 5, 5, 5}, []int{1, 1, 1, 1, 6}}, {all(6, 5), []int{1, 1, 1, 6, 6}}, {all(6, 5), []int{6, 6, 1, 1, 1}}, {[]int{5, 5, 5, 5, 6}, []int{1, 1, 6, 1, 1}},
	} {
		for _, empty := range both() {
			var ahead [][]int
			n := 0
			for way := range split.All(c.m, c.k, empty) {
				if !isWay(c.m, c.k, empty, way) || n > 0 && order(ahead, way) >= 0 {
					t.Fatalf("All of %v and %v, %v: %v behind %v", c.m, c.k, empty, way, ahead)
				}
				ahead = way
				if n++; n == 20000 {
					break
				}
			}
			if want := min(counted(c.m, c.k, empty), 20000); n != want {
				t.Errorf("All of %v and %v, %v: %d; want %d", c.m, c.k, empty, n, want)
			}
		}
	}
	first := [][]int{all(0, 5), all(0, 5), all(0, 5), all(0, 5), all(6, 5)}
	wantWays(t, told(split.All(all(6, 5), all(1, 5), true), 1), [][][]int{first}, "the first, empty")
	first = [][]int{{0, 0, 0, 0, 1}, {0, 0, 0, 0, 1}, {0, 0, 0, 0, 1}, {0, 0, 0, 0, 1}, {6, 6, 6, 6, 2}}
	wantWays(t, told(split.All(all(6, 5), all(1, 5), false), 1), [][][]int{first}, "the first, not empty")
}

// TestAllOfVeryManyThatLeadNowhere: were parts allowed to be empty, there would be no end of ways; as it is there is none, and that is found at once.
func TestAllOfVeryManyThatLeadNowhere(t *testing.T) {
	for _, c := range []struct{ m, k []int }{
		{all(5, 5), []int{1, 1, 1, 1, 6}}, {all(5, 5), []int{6, 1, 1, 1, 1}}, {[]int{6, 5, 5, 5, 5}, []int{1, 1, 1, 6, 6}}, {[]int{5, 5, 6, 5, 5}, []int{1, 6, 1, 6, 1}}, {[]int{6, 3, 3, 3, 3}, []int{1, 1, 1, 4, 4}},
	} {
		if n := counted(c.m, c.k, true); n < 10000 {
			t.Errorf("%v and %v: %d ways alone, empty", c.m, c.k, n)
		}
		for range 200 {
			wantWays(t, told(split.All(c.m, c.k, false), -1), nil, "All of", c.m, c.k)
		}
	}
}
