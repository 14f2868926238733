package linsolve_test

import (
	"math"
	"slices"
	"sync"
	"testing"

	"amalgam/linsolve"
)

// cases are coefficients and a vector, right ones and wrong ones.
func cases() [][3][]int {
	l := [][3][]int{
		{{2, 1}, {3}, {2, 5, 3}}, {{1, 1}, {1, 1}, {2, 0, 1, 1}}, {nil, nil, nil}, {nil, {1}, {0}}, {{5}, nil, {1}},
		{all(1, 5), all(1, 5), all(7, 10)}, {all(1, 4), all(1, 4), all(1, 8)}, {all(5, 5), {6}, {1, 1, 1, 1, 2, 5}},
		{{2}, {3}, {3, -2}}, {{2}, {3}, {count + 1, 2}}, {{2}, {3}, {math.MaxInt, math.MinInt}}, {{2}, {3}, {3, 2, 1}},
	}
	for _, c := range wrongSides() {
		l = append(l, [3][]int{c[0], c[1], all(0, len(c[0])+len(c[1]))})
	}
	return l
}

// P3: what is handed in stays as it was, its spare room too.
func TestInputsStay(t *testing.T) {
	for _, c := range cases() {
		a, b, v := roomy(c[0]...), roomy(c[1]...), roomy(c[2]...)
		l := [][]int{roomy(c[2]...), roomy(slices.Repeat([]int{1}, len(c[2]))...), roomy(c[0]...)}
		lists := [][]int{a, b, v, l[0], l[1], l[2]}
		var before [][]int
		for _, x := range lists {
			before = append(before, whole(x))
		}
		linsolve.Check(a, b)
		linsolve.Solves(a, b, v)
		linsolve.Minimal(a, b, v)
		linsolve.Basis(a, b)
		walk := linsolve.All(a, b)
		for w := range walk {
			spoil(w)
		}
		linsolve.Express(l, v)
		linsolve.Express(l[:2], v)
		for i, x := range lists {
			if !slices.Equal(whole(x), before[i]) {
				t.Errorf("list %d of %v became %v", i, c, whole(x))
			}
		}
	}
}

// P3: what comes out is new memory, and no two lists of an answer share any.
func TestBasisIsNewMemory(t *testing.T) {
	for _, c := range [][2][]int{{{2, 1}, {3}}, {all(1, 4), all(1, 4)}, {{6}, {1, 1}}, {{1}, {1}}} {
		want := grown(c[0], c[1])
		first, _ := linsolve.Basis(c[0], c[1])
		second, _ := linsolve.Basis(c[0], c[1])
		for i, v := range first {
			spoil(v)
			if !same(first[i+1:], want[i+1:]) || !same(second, want) {
				t.Fatalf("%v: %v, %v", c, first, second)
			}
		}
		if third, _ := linsolve.Basis(c[0], c[1]); !same(third, want) {
			t.Errorf("%v: %v", c, third)
		}
	}
}

// P3, L4: what was yielded is its owner's: neither this walk nor another one sees what becomes of it.
func TestYieldedIsNewMemory(t *testing.T) {
	a, b := []int{2, 1, 4}, []int{3, 1}
	want := grown(a, b)
	walk := linsolve.All(a, b)
	for range 2 {
		i := 0
		for v := range walk {
			if !slices.Equal(v, want[i]) {
				t.Fatalf("%d: %v; want %v", i, v, want[i])
			}
			spoil(v)
			j := 0
			for w := range walk {
				if !slices.Equal(w, want[j]) {
					t.Fatalf("within itself, %d: %v; want %v", j, w, want[j])
				}
				spoil(w)
				j++
			}
			i++
		}
	}
	all := slices.Collect(walk)
	for i, v := range all {
		spoil(v)
		if !same(all[i+1:], want[i+1:]) {
			t.Fatalf("%d shares memory: %v", i, all)
		}
	}
}

// P3: the list that Express answers is new memory, also where it looks like what came in.
func TestExpressIsNewMemory(t *testing.T) {
	l, v := [][]int{{1, 0}, {0, 1}}, []int{1, 1}
	often, _ := linsolve.Express(l, v)
	again, _ := linsolve.Express(l, v)
	spoil(often)
	if !slices.Equal(v, []int{1, 1}) || !slices.Equal(again, []int{1, 1}) || !same(l, [][]int{{1, 0}, {0, 1}}) {
		t.Errorf("%v, %v, %v", v, again, l)
	}
}

// P3: nothing is kept from call to call, so that calls side by side answer as calls one behind the other.
func TestNothingIsKept(t *testing.T) {
	walk := linsolve.All([]int{1, 2, 3}, []int{4, 5})
	want := slices.Collect(walk)
	var wait sync.WaitGroup
	for range 8 {
		wait.Add(1)
		go func() {
			defer wait.Done()
			for range 20 {
				if got := slices.Collect(walk); !same(got, want) {
					t.Errorf("%v", got)
				}
				linsolve.Basis([]int{2, 1}, []int{3})
				if often, ok := linsolve.Express(want, want[1]); !ok || often[1] != 1 {
					t.Errorf("%v", often)
				}
			}
		}()
	}
	wait.Wait()
}

// P1: no call panics, and each ends, at all lists of strange numbers.
func TestStrangeNumbers(t *testing.T) {
	strange := []int{math.MinInt, -1, 0, 1, 6, 7, count, count + 1, math.MaxInt}
	lists := [][]int{nil, {}}
	for _, n := range strange {
		lists = append(lists, []int{n}, all(n, 5), all(n, 6))
		for _, m := range strange {
			lists = append(lists, []int{n, m})
		}
	}
	for _, a := range lists {
		for _, b := range lists {
			e := linsolve.Check(a, b)
			l, f := linsolve.Basis(a, b)
			if e != 0 && (f != e || l != nil) {
				t.Fatalf("%v, %v: %v, %v", a, b, e, f)
			}
			for _, v := range lists {
				if linsolve.Minimal(a, b, v) && !linsolve.Solves(a, b, v) {
					t.Fatalf("%v, %v, %v", a, b, v)
				}
				linsolve.Express([][]int{a, b}, v)
			}
		}
	}
}
