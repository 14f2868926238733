package pick_test

import (
	"math"
	"math/rand"
	"slices"
	"testing"

	"amalgam/api"
)

// count is the greatest number of a row.
const count = api.MaxCount

// example are the rows of the chapter's examples.
func example() [][]int { return [][]int{{1, 1, 0}, {0, 1, 1}, {1, 0, 2}} }

func same(l, m [][]int) bool { return slices.EqualFunc(l, m, slices.Equal) }

// all is a list of one number, so often.
func all(n, often int) []int { return slices.Repeat([]int{n}, often) }

// tall are so many rows, each of one number, so often.
func tall(often, n, columns int) [][]int {
	l := make([][]int, often)
	for i := range l {
		l[i] = all(n, columns)
	}
	return l
}

// lists are all lists of a length, each number from 0 to the greatest one.
func lists(length, most int) [][]int {
	l := [][]int{nil}
	for range length {
		var longer [][]int
		for _, r := range l {
			for n := range most + 1 {
				longer = append(longer, append(slices.Clone(r), n))
			}
		}
		l = longer
	}
	return l
}

// tables are all lists of so many rows out of some.
func tables(often int, of [][]int) [][][]int {
	l := [][][]int{nil}
	for range often {
		var longer [][][]int
		for _, rows := range l {
			for _, r := range of {
				longer = append(longer, append(slices.Clone(rows), r))
			}
		}
		l = longer
	}
	return l
}

// added is a mask's sum as the chapter says it, column by column.
func added(rows [][]int, columns int, mask uint32) []int {
	l := make([]int, columns)
	for j := range l {
		for i := range rows {
			if mask/(1<<i)%2 == 1 {
				l[j] += rows[i][j]
			}
		}
	}
	return l
}

// right: is a sum what is wanted, as the chapter says it?
func right(want, sum []int) bool {
	for j, w := range want {
		switch {
		case w == 1 && sum[j] == 0:
			return false
		case w == 2 && sum[j] != 1:
			return false
		}
	}
	return true
}

// fitting are all masks that fit, tried one by one.
func fitting(rows [][]int, want []int) []uint32 {
	var l []uint32
	for mask := range uint32(1) << len(rows) {
		if right(want, added(rows, len(want), mask)) {
			l = append(l, mask)
		}
	}
	return l
}

// maker makes rows and wants.
type maker struct{ *rand.Rand }

func newMaker(seed int64) maker { return maker{rand.New(rand.NewSource(seed))} }

func (m maker) list(length, most int) []int {
	l := make([]int, length)
	for i := range l {
		l[i] = m.Intn(most + 1)
	}
	return l
}

// table makes rows, of which many numbers are 0.
func (m maker) table(rows, columns int) [][]int {
	l := make([][]int, rows)
	for i := range l {
		l[i] = make([]int, columns)
		for j := range l[i] {
			if m.Intn(3) == 0 {
				l[i][j] = 1 + m.Intn(2)
			}
		}
	}
	return l
}

// pair are rows and wants, with the error that Check says of them.
type pair struct {
	rows [][]int
	want []int
	e    api.Errno
}

// wrong are rows and wants that may not be.
func wrong() []pair {
	return []pair{
		{tall(17, 0, 0), nil, api.ErrPickRows},
		{tall(17, 1, 10), all(2, 10), api.ErrPickRows},
		{tall(17, 1, 11), all(0, 11), api.ErrPickRows},
		{tall(17, 1, 1), []int{3}, api.ErrPickRows},
		{tall(17, -1, 1), []int{0}, api.ErrPickRows},
		{tall(17, 1, 2), []int{0}, api.ErrPickRows},
		{tall(17, math.MaxInt, 12), all(math.MinInt, 11), api.ErrPickRows},
		{tall(1000, 1, 1), []int{0}, api.ErrPickRows},
		{nil, all(0, 11), api.ErrPickWant},
		{nil, all(1, 1000), api.ErrPickWant},
		{nil, []int{3}, api.ErrPickWant},
		{nil, []int{-1}, api.ErrPickWant},
		{nil, []int{math.MaxInt}, api.ErrPickWant},
		{nil, []int{math.MinInt}, api.ErrPickWant},
		{nil, []int{1 << 32}, api.ErrPickWant},
		{nil, []int{0, 1, 2, 3}, api.ErrPickWant},
		{tall(16, 1, 11), all(0, 11), api.ErrPickWant},
		{tall(2, 1, 10), append(all(0, 9), 3), api.ErrPickWant},
		{tall(1, -1, 1), []int{-1}, api.ErrPickWant},
		{tall(1, 1, 2), []int{3}, api.ErrPickWant},
		{tall(16, math.MaxInt, 12), all(0, 11), api.ErrPickWant},
		{tall(1, 0, 0), []int{0}, api.ErrPickRow},
		{tall(1, 0, 1), nil, api.ErrPickRow},
		{tall(16, 0, 9), all(0, 10), api.ErrPickRow},
		{tall(16, 0, 11), all(0, 10), api.ErrPickRow},
		{[][]int{{1, 1}, {1}}, []int{0, 0}, api.ErrPickRow},
		{[][]int{{1, 1}, {1, 1, 1}}, []int{0, 0}, api.ErrPickRow},
		{[][]int{{1, 1}, nil}, []int{0, 0}, api.ErrPickRow},
		{[][]int{{-1}}, []int{0}, api.ErrPickRow},
		{[][]int{{1, 1}, {1, -1}}, []int{1, 1}, api.ErrPickRow},
		{[][]int{{count + 1}}, []int{0}, api.ErrPickRow},
		{[][]int{{0, 0}, {count + 1, 0}}, []int{2, 2}, api.ErrPickRow},
		{[][]int{{math.MaxInt}}, []int{0}, api.ErrPickRow},
		{[][]int{{math.MinInt}}, []int{0}, api.ErrPickRow},
		{[][]int{{1 << 32}}, []int{0}, api.ErrPickRow},
	}
}

// allowed are rows and wants that may be, at the edges of that.
func allowed() []pair {
	return []pair{
		{nil, nil, api.OK},
		{[][]int{}, []int{}, api.OK},
		{tall(16, 0, 0), nil, api.OK},
		{nil, all(0, 10), api.OK},
		{nil, []int{0, 1, 2}, api.OK},
		{tall(16, count, 10), all(2, 10), api.OK},
		{tall(16, 0, 10), all(1, 10), api.OK},
		{[][]int{{0}, {1}, {count}}, []int{0}, api.OK},
		{example(), []int{2, 1, 0}, api.OK},
	}
}

// roomy is a list with things in its spare room.
func roomy(l ...int) []int { return append(slices.Clone(l), 71, 72, 73)[:len(l)] }

// roomyRows are rows with spare room, and a row in the spare room of their list.
func roomyRows(rows [][]int) [][]int {
	var l [][]int
	for _, r := range rows {
		l = append(l, roomy(r...))
	}
	return append(slices.Clip(l), roomy(81))[:len(rows)]
}

// whole is a list with its spare room.
func whole(l []int) []int { return slices.Clone(l[:cap(l)]) }

// wholeRows are rows, those in the spare room too, each with its own.
func wholeRows(rows [][]int) [][]int {
	var l [][]int
	for _, r := range rows[:cap(rows)] {
		l = append(l, whole(r))
	}
	return l
}

// spoil overwrites a list, its spare room too.
func spoil[T int | uint32](l []T) {
	for i := range l[:cap(l)] {
		l[:cap(l)][i] = 999
	}
}

func wantMasks(t *testing.T, what string, got, want []uint32, of ...any) {
	t.Helper()
	if !slices.Equal(got, want) {
		t.Errorf("%s of %v: %v; want %v", what, of, got, want)
	}
}
