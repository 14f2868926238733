package pick_test

import (
	"math"
	"testing"

	"amalgam/pick"
)

func TestPicked(t *testing.T) {
	odd := [][]int{{math.MinInt, -1}, nil, {math.MaxInt}, {}, {1, 2, 3, 4, 5, 6, 7, 8, 9, 10, 11, 12}, {1}, {1}}
	for _, c := range []struct {
		rows [][]int
		mask uint32
		l    [][]int
	}{
		{example(), 6, [][]int{{0, 1, 1}, {1, 0, 2}}},
		{example(), 15, example()},
		{example(), 7, example()},
		{example(), 1<<32 - 1, example()},
		{example(), 5, [][]int{{1, 1, 0}, {1, 0, 2}}},
		{example(), 0, nil},
		{example(), 8, nil},
		{example(), 1 << 31, nil},
		{example(), 1<<31 | 4, [][]int{{1, 0, 2}}},
		{nil, 0, nil},
		{nil, 1, nil},
		{nil, 1<<32 - 1, nil},
		{odd, 1<<7 - 1, odd},
		{odd, 2, [][]int{nil}},
		{odd, 8, [][]int{{}}},
		{odd, 1 | 16 | 64, [][]int{odd[0], odd[4], odd[6]}},
	} {
		if l := pick.Picked(c.rows, c.mask); !same(l, c.l) {
			t.Errorf("Picked of %v, mask %d: %v; want %v", c.rows, c.mask, l, c.l)
		}
	}
}

// TestPickedOfManyRows: a mask has 32 bits; a row further behind has none, and is never in.
func TestPickedOfManyRows(t *testing.T) {
	var rows [][]int
	for i := range 200 {
		rows = append(rows, []int{i})
	}
	if l := pick.Picked(rows, 1<<32-1); !same(l, rows[:32]) {
		t.Errorf("%v", l)
	}
	for i := range 32 {
		if l := pick.Picked(rows, 1<<i); !same(l, rows[i:i+1]) {
			t.Errorf("%d: %v", i, l)
		}
		if l := pick.Picked(rows[:i], 1<<32-1); !same(l, rows[:i]) {
			t.Errorf("of the first %d: %v", i, l)
		}
		if l := pick.Picked(rows[:i], 1<<i); len(l) != 0 {
			t.Errorf("behind the first %d: %v", i, l)
		}
	}
}

// TestPickedByWords: row by row, by masks of all kinds.
func TestPickedByWords(t *testing.T) {
	m := newMaker(4)
	for range 500 {
		var rows, want [][]int
		mask := m.Uint32()
		for i := range m.Intn(40) {
			rows = append(rows, m.list(m.Intn(4), 9))
			if i < 32 && uint64(mask)/(1<<i)%2 == 1 {
				want = append(want, rows[i])
			}
		}
		if l := pick.Picked(rows, mask); !same(l, want) {
			t.Fatalf("Picked of %v, mask %d: %v; want %v", rows, mask, l, want)
		}
	}
}
