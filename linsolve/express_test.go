package linsolve_test

import (
	"math"
	"slices"
	"testing"

	"amalgam/linsolve"
)

func TestExpress(t *testing.T) {
	for _, c := range []struct {
		l     [][]int
		v     []int
		often []int
		ok    bool
	}{
		{[][]int{{1, 1, 1}, {0, 3, 1}}, []int{2, 5, 3}, []int{2, 1}, true},
		{[][]int{{0, 3, 1}, {1, 1, 1}}, []int{2, 5, 3}, []int{1, 2}, true},
		{[][]int{{1, 1, 1}, {0, 3, 1}}, []int{2, 5, 4}, []int{2, 1}, false},
		{[][]int{{1, 1, 1}, {0, 3, 1}}, []int{3, 5, 3}, []int{3, 0}, false},
		{[][]int{{1, 1, 1}, {0, 3, 1}}, []int{0, 0, 0}, []int{0, 0}, true},
		{[][]int{{2, 0}, {1, 0}, {0, 1}}, []int{3, 2}, []int{1, 1, 2}, true},
		{[][]int{{1, 0}, {1, 0}, {0, 1}, {0, 1}}, []int{3, 2}, []int{3, 0, 2, 0}, true},
		{[][]int{{2, 1}}, []int{3, 3}, []int{1}, false},
		{[][]int{{1, 2}}, []int{3, 3}, []int{1}, false},
		{[][]int{{1, 2}}, []int{0, 2}, []int{0}, false},
		{nil, []int{0, 0}, nil, true},
		{nil, []int{0, 1}, nil, false},
		{nil, nil, nil, true},
		{[][]int{{}, nil, {}}, nil, []int{0, 0, 0}, true},
		{[][]int{{}, {}}, []int{}, []int{0, 0}, true},
		{[][]int{{0, 0}}, []int{0, 0}, []int{0}, true},
		{[][]int{{0, 0}, {1, 0}}, []int{2, 0}, []int{0, 2}, true},
		{[][]int{{0, 0}}, []int{2, 0}, []int{0}, false},
		{[][]int{{1}}, []int{count}, []int{count}, true},
		{[][]int{{count}}, []int{count}, []int{1}, true},
		{[][]int{{count}}, []int{count - 1}, []int{0}, false},
		{[][]int{{count - 1}}, []int{count}, []int{1}, false},
		{[][]int{{1, 0}, {0, count}}, []int{count, count}, []int{count, 1}, true},
	} {
		often, ok := linsolve.Express(c.l, c.v)
		if !slices.Equal(often, c.often) || ok != c.ok {
			t.Errorf("Express of %v by %v: %v, %v; want %v, %v", c.v, c.l, often, ok, c.often, c.ok)
		}
	}
}

func TestExpressOfWrongVectors(t *testing.T) {
	for _, c := range []struct {
		l [][]int
		v []int
	}{
		{[][]int{{1}}, []int{1, 1}},
		{[][]int{{1, 1, 1}}, []int{1, 1}},
		{[][]int{{}}, []int{0}},
		{[][]int{nil}, []int{0}},
		{[][]int{{0}}, nil},
		{[][]int{{1, 1}, {1}}, []int{1, 1}},
		{[][]int{{1}, {1, 1}}, []int{1, 1}},
		{[][]int{{1, 1}, {}}, []int{1, 1}},
		{[][]int{{-1}}, []int{1}},
		{[][]int{{1, 0}, {0, -1}}, []int{1, 0}},
		{[][]int{{1, 0}, {-1, 0}, {1, 0}}, []int{1, 0}},
		{[][]int{{count + 1}}, []int{1}},
		{[][]int{{math.MaxInt}}, []int{1}},
		{[][]int{{math.MinInt}}, []int{1}},
		{nil, []int{-1}},
		{nil, []int{0, math.MinInt}},
		{nil, []int{count + 1}},
		{[][]int{{1}}, []int{count + 1}},
		{[][]int{{1, 1}}, []int{1, -1}},
		{[][]int{{0, 0}}, []int{0, math.MaxInt}},
		{[][]int{{1, 1}}, []int{1, math.MinInt}},
	} {
		if often, ok := linsolve.Express(c.l, c.v); len(often) != 0 || ok {
			t.Errorf("Express of %v by %v: %v, %v; want none, false", c.v, c.l, often, ok)
		}
	}
}

// taken takes one vector at a time, as often as none goes below 0.
func taken(l [][]int, v []int) ([]int, bool) {
	left, often := slices.Clone(v), make([]int, len(l))
	for i, w := range l {
		for !zero(w) && (below(w, left) || slices.Equal(w, left)) {
			often[i]++
			for j := range left {
				left[j] -= w[j]
			}
		}
	}
	return often, zero(left)
}

// TestExpressByOnes holds Express against taking out one by one.
func TestExpressByOnes(t *testing.T) {
	vectors := rows(2, 0, 4)
	for _, v := range rows(2, 0, 9) {
		for _, w := range vectors {
			for _, u := range vectors {
				l := [][]int{w, u}
				often, ok := linsolve.Express(l, v)
				if want, is := taken(l, v); !slices.Equal(often, want) || ok != is {
					t.Fatalf("Express of %v by %v: %v, %v; want %v, %v", v, l, often, ok, want, is)
				}
			}
		}
	}
	m := newMaker(3)
	for range 4000 {
		n := m.Intn(6)
		v := m.vector(n, 40)
		var l [][]int
		for range m.Intn(6) {
			l = append(l, m.vector(n, 1+m.Intn(9)))
		}
		often, ok := linsolve.Express(l, v)
		if want, is := taken(l, v); !slices.Equal(often, want) || ok != is {
			t.Fatalf("Express of %v by %v: %v, %v; want %v, %v", v, l, often, ok, want, is)
		}
	}
}

// TestExpressOfLongLists: many vectors, and long ones.
func TestExpressOfLongLists(t *testing.T) {
	v, w := all(count, 200000), all(1, 200000)
	if often, ok := linsolve.Express([][]int{w}, v); !slices.Equal(often, []int{count}) || !ok {
		t.Errorf("long vectors: %v, %v", often, ok)
	}
	w[199999] = 2
	if often, ok := linsolve.Express([][]int{w}, v); !slices.Equal(often, []int{count / 2}) || ok {
		t.Errorf("long vectors: %v, %v", often, ok)
	}
	l := slices.Repeat([][]int{{0}, {3}, {2}}, 100000)
	if often, ok := linsolve.Express(l, []int{8}); len(often) != len(l) || often[1] != 2 || often[2] != 1 || !ok {
		t.Errorf("many vectors: %v, %v", often[:6], ok)
	}
}
