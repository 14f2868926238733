package linsolve_test

import (
	"slices"
	"testing"

	"amalgam/api"
	"amalgam/linsolve"
)

// P9.1: the chapter's table of examples.
func TestP91Examples(t *testing.T) {
	for _, c := range []struct {
		a, b []int
		l    [][]int
		e    api.Errno
	}{
		{[]int{2, 1}, []int{3}, [][]int{{0, 3, 1}, {1, 1, 1}, {3, 0, 2}}, api.OK},
		{[]int{1, 1}, []int{1, 1}, [][]int{{0, 1, 0, 1}, {0, 1, 1, 0}, {1, 0, 0, 1}, {1, 0, 1, 0}}, api.OK},
		{nil, []int{1}, nil, api.OK},
		{nil, nil, nil, api.OK},
		{all(1, 5), all(1, 5), nil, api.ErrTooMany},
		{[]int{7}, []int{1}, nil, api.ErrLinCoeff},
		{all(1, 6), []int{7}, nil, api.ErrLinSide},
		{[]int{0}, []int{1}, nil, api.ErrLinCoeff},
	} {
		if l, e := linsolve.Basis(c.a, c.b); !same(l, c.l) || e != c.e {
			t.Errorf("Basis of %v and %v: %v, %v; want %v, %v", c.a, c.b, l, e, c.l, c.e)
		}
	}
	if n := len(slices.Collect(linsolve.All(all(1, 5), all(1, 5)))); n != 25 {
		t.Errorf("All of five and five: %d", n)
	}
	wantBool(t, "Minimal", linsolve.Minimal([]int{2}, []int{3}, []int{3, 2}), true, "3 2")
	wantBool(t, "Minimal", linsolve.Minimal([]int{2}, []int{3}, []int{6, 4}), false, "6 4")
	wantBool(t, "Minimal", linsolve.Minimal([]int{2}, []int{3}, []int{0, 0}), false, "0 0")
	if often, ok := linsolve.Express([][]int{{1, 1, 1}, {0, 3, 1}}, []int{2, 5, 3}); !slices.Equal(often, []int{2, 1}) || !ok {
		t.Errorf("Express: %v, %v", often, ok)
	}
}

// made are coefficients of all lengths.
func made(seed int64, often int) [][2][]int {
	m := newMaker(seed)
	var l [][2][]int
	for range often {
		l = append(l, [2][]int{m.side(api.MaxSide), m.side(api.MaxSide)})
	}
	return l
}

// P9.2: each solution is expressed by all minimal ones.
func TestP92EachSolutionIsExpressed(t *testing.T) {
	for _, a := range sides(2) {
		for _, b := range sides(1) {
			l := slices.Collect(linsolve.All(a, b))
			for _, v := range rows(len(a)+len(b), 0, 11) {
				if _, ok := linsolve.Express(l, v); ok != linsolve.Solves(a, b, v) {
					t.Fatalf("%v, %v: Express of %v by %v: %v", a, b, v, l, ok)
				}
			}
		}
	}
	m, met := newMaker(4), 0
	for _, c := range made(5, 150) {
		l := slices.Collect(linsolve.All(c[0], c[1]))
		for range 2000 {
			v := m.vector(len(c[0])+len(c[1]), 12)
			if zero(v) || !linsolve.Solves(c[0], c[1], v) {
				continue
			}
			if _, ok := linsolve.Express(l, v); !ok {
				t.Fatalf("%v: Express of %v: %v", c, v, ok)
			}
			met++
		}
	}
	if met < 200 {
		t.Errorf("only %d solutions were met", met)
	}
}

// P9.2, T4: each is a minimal solution, told once, in order; none is below another.
func TestP92NoneIsBelowAnother(t *testing.T) {
	for _, c := range append(made(6, 200), [2][]int{{1, 2, 3, 4, 5}, {6, 5, 4, 3, 2}}) {
		l := slices.Collect(linsolve.All(c[0], c[1]))
		for i, v := range l {
			if !linsolve.Minimal(c[0], c[1], v) || i > 0 && slices.Compare(l[i-1], v) >= 0 {
				t.Fatalf("%v: %v", c, v)
			}
			if len(l) > 600 {
				continue
			}
			for _, w := range l {
				if below(w, v) {
					t.Fatalf("%v: %v is below %v", c, w, v)
				}
			}
		}
	}
}

func sum(l []int) int {
	n := 0
	for _, x := range l {
		n += x
	}
	return n
}

// P9.3: the x are together at most the greatest of b, the y at most the greatest of a.
func TestP93Bounds(t *testing.T) {
	reached := 0
	for _, c := range append(made(7, 200), [2][]int{{5}, {6}}, [2][]int{all(5, 5), all(6, 5)}) {
		for v := range linsolve.All(c[0], c[1]) {
			x, y := sum(v[:len(c[0])]), sum(v[len(c[0]):])
			if x > slices.Max(c[1]) || y > slices.Max(c[0]) {
				t.Fatalf("%v: %v", c, v)
			}
			if x == slices.Max(c[1]) && y == slices.Max(c[0]) {
				reached++
			}
		}
	}
	if reached == 0 {
		t.Error("no bound was reached")
	}
}

// P9.4: with both sides exchanged, the minimal solutions are the same ones, y first.
func TestP94Sides(t *testing.T) {
	for _, c := range made(8, 200) {
		n := len(c[0])
		var want [][]int
		for v := range linsolve.All(c[0], c[1]) {
			want = append(want, slices.Concat(v[n:], v[:n]))
		}
		slices.SortFunc(want, slices.Compare[[]int])
		if got := slices.Collect(linsolve.All(c[1], c[0])); !same(got, want) {
			t.Fatalf("%v: %d, %d", c, len(got), len(want))
		}
		l, e := linsolve.Basis(c[0], c[1])
		if m, f := linsolve.Basis(c[1], c[0]); e != f || len(l) != len(m) {
			t.Fatalf("Basis of %v: %v, %v; the other way round: %v, %v", c, l, e, m, f)
		}
	}
}
