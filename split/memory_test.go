package split_test

import (
	"math"
	"slices"
	"sync"
	"testing"

	"amalgam/api"
	"amalgam/split"
)

// P3: what is handed in stays as it was, its spare room too, and what is answered does not hang on spare room.
func TestInputsStay(t *testing.T) {
	for _, c := range append(wrong(), allowed()...) {
		m, k := roomy(c.m...), roomy(c.k...)
		wereM, wereK := whole(m), whole(k)
		for _, empty := range both() {
			if e := split.Check(m, k); e != c.e {
				t.Errorf("Check of %v and %v: %v; want %v", m, k, e, c.e)
			}
			want := told(split.All(c.m, c.k, empty), 50)
			wantWays(t, told(split.All(m, k, empty), 50), want, "with spare room", m, k, empty)
			for _, way := range told(split.All(m, k, empty), 50) {
				spoil(way)
			}
			split.Count(m, k, empty, 50)
			split.Count(m, k, empty, -1)
		}
		if !slices.Equal(whole(m), wereM) || !slices.Equal(whole(k), wereK) {
			t.Errorf("%v and %v became %v and %v", wereM, wereK, whole(m), whole(k))
		}
	}
}

// P3: one list handed in twice.
func TestOneListTwice(t *testing.T) {
	l := []int{1, 2, 3}
	for _, empty := range both() {
		wantWays(t, told(split.All(l, l, empty), -1), byKinds([]int{1, 2, 3}, []int{1, 2, 3}, empty), "one list twice", empty)
		wantCount(t, l, l, empty, math.MaxInt, counted(l, l, empty), api.OK)
	}
}

// D2, P3: a way that was handed out may be written over: neither those that follow nor another walk are other ones.
func TestWaysAreNewMemory(t *testing.T) {
	m, k := []int{2, 1, 3}, []int{1, 2, 1}
	for _, empty := range both() {
		want := byKinds(m, k, empty)
		walk := split.All(m, k, empty)
		again := told(walk, -1)
		i := 0
		for way := range walk {
			if !sameWay(way, want[i]) {
				t.Fatalf("behind those that were written over: %v; want %v", way, want[i])
			}
			spoil(way)
			i++
		}
		if i != len(want) {
			t.Errorf("%d ways; want %d", i, len(want))
		}
		wantWays(t, again, want, "told ahead", empty)
		wantWays(t, told(walk, -1), want, "told behind", empty)
		if !slices.Equal(m, []int{2, 1, 3}) || !slices.Equal(k, []int{1, 2, 1}) {
			t.Errorf("%v and %v", m, k)
		}
	}
}

// P3: no two parts share memory, spare room too, nor do two ways.
func TestPartsShareNothing(t *testing.T) {
	for _, c := range []pair{{[]int{2, 1}, []int{1, 1}, 0}, {[]int{3, 2, 1}, []int{1, 1, 1}, 0}, {[]int{4}, all(1, 4), 0}, {all(1, 5), []int{1, 1}, 0}, {nil, all(1, 5), 0}, {all(0, 5), all(1, 5), 0}} {
		want := byKinds(c.m, c.k, true)
		for at := range want {
			for part := range c.k {
				ways := told(split.All(c.m, c.k, true), -1)
				l := ways[at][part]
				_ = append(l, 77)
				for j := range l[:cap(l)] {
					l[:cap(l)][j] = -999
				}
				ways[at][part] = want[at][part]
				wantWays(t, ways, want, "one part written over", at, part)
			}
			ways := told(split.All(c.m, c.k, true), -1)
			_ = append(ways[at], []int{77})
			spoil(ways[at])
			ways[at] = want[at]
			wantWays(t, ways, want, "one way written over", at)
		}
	}
}

// P3: nothing is kept from call to call, so that walks side by side are as walks one behind the other.
func TestNothingIsKept(t *testing.T) {
	m, k := []int{2, 1, 3}, []int{1, 2, 1}
	want := byKinds(m, k, false)
	walk := split.All(m, k, false)
	var wait sync.WaitGroup
	for range 8 {
		wait.Add(1)
		go func() {
			defer wait.Done()
			for range 50 {
				if l := told(walk, -1); !same(l, want) {
					t.Errorf("one walk: %v", l)
				}
				if l := told(split.All(m, k, false), -1); !same(l, want) {
					t.Errorf("a walk of its own: %v", l)
				}
				if n, e := split.Count(m, k, false, 1000); n != len(want) || e != api.OK {
					t.Errorf("Count: %d, %v", n, e)
				}
			}
		}()
	}
	wait.Wait()
}

// P1, P2: no call panics, and each ends, at all lists of strange numbers; beside an error there is 0.
func TestStrangeNumbers(t *testing.T) {
	several := [][]int{nil, {}}
	for _, n := range []int{math.MinInt, -7, -1, 0, 1, 2, 5, 6, 7, 1 << 31, 1 << 32, math.MaxInt} {
		several = append(several, []int{n}, []int{n, 1}, []int{1, n}, []int{0, n, 6}, all(n, 5), all(n, 6), all(n, 100))
	}
	for _, m := range several {
		for _, k := range several {
			e := split.Check(m, k)
			for _, empty := range both() {
				l := told(split.All(m, k, empty), 40)
				if e != api.OK && l != nil {
					t.Fatalf("All of %v and %v: %v; Check says %v", m, k, l, e)
				}
				for _, most := range []int{math.MinInt, -1, 0, 3, 40, math.MaxInt} {
					n, f := split.Count(m, k, empty, most)
					switch {
					case e != api.OK && (n != 0 || f != e), e == api.OK && most < 0 && (n != 0 || f != api.ErrArg):
						t.Fatalf("Count of %v and %v, %d at most: %d, %v; Check says %v", m, k, most, n, f, e)
					case e == api.OK && most >= 0 && (min(n, 40) != min(len(l), most) || f != api.OK):
						t.Fatalf("Count of %v and %v, %d at most: %d, %v; All tells %d", m, k, most, n, f, len(l))
					}
				}
			}
		}
	}
}
