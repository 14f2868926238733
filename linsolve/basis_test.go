package linsolve_test

import (
	"slices"
	"testing"

	"amalgam/api"
	"amalgam/linsolve"
)

func TestBasis(t *testing.T) {
	for _, c := range []struct {
		a, b []int
		l    [][]int
	}{
		{[]int{2, 1}, []int{3}, [][]int{{0, 3, 1}, {1, 1, 1}, {3, 0, 2}}},
		{[]int{1, 1}, []int{1, 1}, [][]int{{0, 1, 0, 1}, {0, 1, 1, 0}, {1, 0, 0, 1}, {1, 0, 1, 0}}},
		{[]int{1, 1}, []int{2}, [][]int{{0, 2, 1}, {1, 1, 1}, {2, 0, 1}}},
		{nil, nil, nil}, {nil, []int{1}, nil}, {[]int{1}, nil, nil}, {nil, all(6, 5), nil}, {all(1, 5), nil, nil}, {[]int{}, []int{3, 3}, nil},
		{[]int{1}, []int{1}, [][]int{{1, 1}}},
		{[]int{6}, []int{6}, [][]int{{1, 1}}},
		{[]int{5}, []int{6}, [][]int{{6, 5}}},
		{[]int{6}, []int{1}, [][]int{{1, 6}}},
		{[]int{4}, []int{6}, [][]int{{3, 2}}},
		{[]int{6, 6}, []int{6}, [][]int{{0, 1, 1}, {1, 0, 1}}},
		{[]int{6}, []int{1, 1}, [][]int{{1, 0, 6}, {1, 1, 5}, {1, 2, 4}, {1, 3, 3}, {1, 4, 2}, {1, 5, 1}, {1, 6, 0}}},
		{[]int{2}, []int{2, 3}, [][]int{{1, 1, 0}, {3, 0, 2}}},
	} {
		l, e := linsolve.Basis(c.a, c.b)
		if e != api.OK || !same(l, c.l) {
			t.Errorf("Basis of %v and %v: %v, %v; want %v", c.a, c.b, l, e, c.l)
		}
	}
}

func TestBasisErrors(t *testing.T) {
	for _, c := range []struct {
		a, b []int
		e    api.Errno
	}{
		{all(1, 5), all(1, 5), api.ErrTooMany},
		{all(5, 5), all(6, 5), api.ErrTooMany},
		{[]int{7}, []int{1}, api.ErrLinCoeff},
		{all(1, 6), []int{7}, api.ErrLinSide},
		{[]int{0}, []int{1}, api.ErrLinCoeff},
		{[]int{1, 1, 1, 1, 0}, all(1, 5), api.ErrLinCoeff},
		{all(1, 6), all(1, 6), api.ErrLinSide},
	} {
		if l, e := linsolve.Basis(c.a, c.b); e != c.e || l != nil {
			t.Errorf("Basis of %v and %v: %v, %v; want %v", c.a, c.b, l, e, c.e)
		}
	}
	for _, c := range wrongSides() {
		if l, e := linsolve.Basis(c[0], c[1]); l != nil || e == api.OK || e != linsolve.Check(c[0], c[1]) {
			t.Errorf("Basis of %v: %v, %v", c, l, e)
		}
	}
}

// TestBasisAlike: n like m coefficients all alike have n m minimal solutions; 16 are just not too many.
func TestBasisAlike(t *testing.T) {
	for n := range 6 {
		for m := range 6 {
			for c := 1; c <= 6; c++ {
				a, b := all(c, n), all(c, m)
				l, e := linsolve.Basis(a, b)
				switch {
				case n*m > 16 && (e != api.ErrTooMany || l != nil):
					t.Errorf("Basis of %v and %v: %v, %v", a, b, l, e)
				case n*m <= 16 && (e != api.OK || len(l) != n*m):
					t.Errorf("Basis of %v and %v: %v, %v", a, b, l, e)
				}
				if got := len(slices.Collect(linsolve.All(a, b))); got != n*m {
					t.Errorf("All of %v and %v: %d", a, b, got)
				}
			}
		}
	}
}

// TestBasisAtItsBound: there are coefficients with just 15, 16 and 17 minimal solutions.
func TestBasisAtItsBound(t *testing.T) {
	seen := [18]int{}
	for _, a := range sides(3) {
		for _, b := range sides(2) {
			want := slices.Collect(linsolve.All(a, b))
			l, e := linsolve.Basis(a, b)
			if len(want) > 16 {
				if e != api.ErrTooMany || l != nil {
					t.Fatalf("Basis of %v and %v: %v, %v; there are %d", a, b, l, e, len(want))
				}
			} else if e != api.OK || !same(l, want) {
				t.Fatalf("Basis of %v and %v: %v, %v; want %v", a, b, l, e, want)
			}
			if len(want) < len(seen) {
				seen[len(want)]++
			}
		}
	}
	if seen[15] == 0 || seen[16] == 0 || seen[17] == 0 {
		t.Errorf("how often so many were seen: %v", seen)
	}
}

// TestAllByRows holds All against the chapter's words: all vectors of numbers up to 7, which is more than one of a minimal solution can be.
func TestAllByRows(t *testing.T) {
	for _, c := range [][2]int{{2, 2}, {2, 1}, {1, 2}, {2, 0}, {0, 2}, {1, 1}} {
		vectors := rows(c[0]+c[1], 0, 7)
		for _, a := range rows(c[0], 1, 6) {
			for _, b := range rows(c[1], 1, 6) {
				if got, want := slices.Collect(linsolve.All(a, b)), minimalOf(a, b, vectors); !same(got, want) {
					t.Fatalf("All of %v and %v: %v; want %v", a, b, got, want)
				}
			}
		}
	}
}

// TestAllByLevels holds All against another search.
func TestAllByLevels(t *testing.T) {
	for _, a := range sides(2) {
		for _, b := range sides(2) {
			if got, want := slices.Collect(linsolve.All(a, b)), grown(a, b); !same(got, want) {
				t.Fatalf("All of %v and %v: %v; want %v", a, b, got, want)
			}
		}
	}
	m := newMaker(2)
	for range 500 {
		a, b := m.side(4), m.side(4)
		if got, want := slices.Collect(linsolve.All(a, b)), grown(a, b); !same(got, want) {
			t.Fatalf("All of %v and %v: %d; want %d", a, b, len(got), len(want))
		}
	}
	for _, c := range [][2][]int{{{1, 2, 3, 4, 5}, {6, 5, 4, 3, 2}}, {{6, 6, 5, 5, 1}, {2, 3, 4, 4, 6}}, {{1, 1, 1, 1, 1}, {2, 3, 4, 5, 6}}, {{6, 5, 4, 3, 2}, {6, 5, 4, 3, 2}}} {
		if got, want := slices.Collect(linsolve.All(c[0], c[1])), grown(c[0], c[1]); !same(got, want) {
			t.Fatalf("All of %v: %d; want %d", c, len(got), len(want))
		}
	}
}

// TestAllOfMany: 5 times the x are 6 times the y, so that there are 6 and 5 of them: 210 ways times 126.
func TestAllOfMany(t *testing.T) {
	a, b := all(5, 5), all(6, 5)
	var ahead []int
	n := 0
	for v := range linsolve.All(a, b) {
		if n++; !linsolve.Minimal(a, b, v) || slices.Compare(ahead, v) >= 0 {
			t.Fatalf("%v behind %v", v, ahead)
		}
		ahead = v
	}
	if n != 26460 {
		t.Errorf("%d minimal solutions", n)
	}
}

func TestAllOfNone(t *testing.T) {
	l := wrongSides()
	l = append(l, [2][]int{nil, nil}, [2][]int{nil, {1}}, [2][]int{{6}, nil}, [2][]int{all(1, 5), {}})
	for _, c := range l {
		walk := linsolve.All(c[0], c[1])
		if walk == nil {
			t.Fatalf("All of %v is nil", c)
		}
		for v := range walk {
			t.Errorf("All of %v: %v", c, v)
		}
	}
}

// TestAllLeftAndGoneThroughAgain: left at each place, and each time the whole again; within itself.
func TestAllLeftAndGoneThroughAgain(t *testing.T) {
	a, b := []int{2, 1, 4}, []int{3, 1}
	want := grown(a, b)
	walk := linsolve.All(a, b)
	for stop := range len(want) + 1 {
		var got [][]int
		for v := range walk {
			if got = append(got, v); len(got) == stop {
				break
			}
		}
		if stop > 0 && !same(got, want[:stop]) || stop == 0 && !same(got, want) {
			t.Fatalf("left at %d: %v", stop, got)
		}
	}
	pairs := 0
	for v := range walk {
		i := 0
		for w := range walk {
			if !slices.Equal(w, want[i]) {
				t.Fatalf("within itself, at %v: %v; want %v", v, w, want[i])
			}
			i++
			pairs++
		}
	}
	if pairs != len(want)*len(want) {
		t.Errorf("%d pairs of %d", pairs, len(want))
	}
}

// TestAllReadsWhenCalled: what a and b become behind the call does not count.
func TestAllReadsWhenCalled(t *testing.T) {
	a, b := []int{2, 1}, []int{3}
	want := grown(a, b)
	walk := linsolve.All(a, b)
	a[0], a[1], b[0] = 1, 7, 0
	if got := slices.Collect(walk); !same(got, want) {
		t.Errorf("changed ahead of the walk: %v", got)
	}
	a[0], a[1], b[0] = 2, 1, 3
	walk = linsolve.All(a, b)
	i := 0
	for v := range walk {
		if !slices.Equal(v, want[i]) {
			t.Errorf("changed while it goes on: %v; want %v", v, want[i])
		}
		a[0], a[1], b[0] = i, 6, 6
		i++
	}
	if i != len(want) {
		t.Errorf("changed while it goes on: %d", i)
	}
	a[0], a[1], b[0] = 7, 7, 7
	walk = linsolve.All(a, b)
	a[0], a[1], b[0] = 2, 1, 3
	if got := slices.Collect(walk); got != nil {
		t.Errorf("made right behind the call: %v", got)
	}
}
