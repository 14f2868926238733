package split_test

import (
	"iter"
	"math"
	"math/rand"
	"slices"
	"testing"

	"amalgam/api"
)

// all is a list of one number, so often.
func all(n, often int) []int { return slices.Repeat([]int{n}, often) }

// lists are all lists of a length, each number from the least to the greatest one, in order.
func lists(length, least, most int) [][]int {
	l := [][]int{nil}
	for range length {
		var longer [][]int
		for _, r := range l {
			for n := least; n <= most; n++ {
				longer = append(longer, append(slices.Clone(r), n))
			}
		}
		l = longer
	}
	return l
}

// sameWay: are the parts the same, as many and as long?
func sameWay(v, w [][]int) bool { return slices.EqualFunc(v, w, slices.Equal) }

func same(v, w [][][]int) bool { return slices.EqualFunc(v, w, sameWay) }

// order is the chapter's order of ways.
func order(v, w [][]int) int { return slices.CompareFunc(v, w, slices.Compare[[]int]) }

// isWay says the chapter's words of a way, kind by kind and part by part.
func isWay(m, k []int, empty bool, way [][]int) bool {
	if len(way) != len(k) {
		return false
	}
	for _, part := range way {
		if len(part) != len(m) || slices.ContainsFunc(part, func(n int) bool { return n < 0 }) {
			return false
		}
		if !empty && !slices.ContainsFunc(part, func(n int) bool { return n > 0 }) {
			return false
		}
	}
	for j, n := range m {
		for i, part := range way {
			n -= k[i] * part[j]
		}
		if n != 0 {
			return false
		}
	}
	return true
}

// filtered are those of all lists of parts that are ways: each number is tried up to the greatest count.
func filtered(m, k []int, empty bool) [][][]int {
	var l [][][]int
	for _, row := range lists(len(m)*len(k), 0, slices.Max(append([]int{0}, m...))) {
		way := [][]int{}
		for i := range k {
			way = append(way, row[i*len(m):(i+1)*len(m)])
		}
		if isWay(m, k, empty, way) {
			l = append(l, way)
		}
	}
	return l
}

// byKinds finds the ways another way: each kind alone, then one of each kind with one another, then all in order.
func byKinds(m, k []int, empty bool) [][][]int {
	ways := [][][]int{make([][]int, len(k))}
	for _, n := range m {
		var more [][][]int
		for _, numbers := range lists(len(k), 0, n) {
			sum := 0
			for i, x := range numbers {
				sum += k[i] * x
			}
			if sum != n {
				continue
			}
			for _, way := range ways {
				longer := make([][]int, len(k))
				for i, x := range numbers {
					longer[i] = append(slices.Clone(way[i]), x)
				}
				more = append(more, longer)
			}
		}
		ways = more
	}
	ways = slices.DeleteFunc(ways, func(way [][]int) bool { return !isWay(m, k, empty, way) })
	slices.SortFunc(ways, order)
	return ways
}

// alone is in how many ways the takers of a mask make a number of one kind.
func alone(n int, k []int, mask int) int {
	often := append([]int{1}, make([]int, n)...)
	for i, x := range k {
		for sum := x; sum <= n && mask>>i&1 == 1; sum++ {
			often[sum] += often[sum-x]
		}
	}
	return often[n]
}

// counted is how many ways there are, worked out: where no part is empty, all less those that leave out one, and so on.
func counted(m, k []int, empty bool) int {
	sum := 0
	for mask := range 1 << len(k) {
		ways := 1
		for _, n := range m {
			ways *= alone(n, k, mask)
		}
		for i := range k {
			if mask>>i&1 == 0 {
				ways = -ways
			}
		}
		if !empty || mask == 1<<len(k)-1 {
			sum += ways
		}
	}
	return sum
}

// tooMany is more ways than any walk has that is gone through to its end here: one that goes wrong is left there.
const tooMany = 10000

// told are the first so many ways of a walk; all of them, if it is below 0.
func told(walk iter.Seq[[][]int], most int) [][][]int {
	var l [][][]int
	for way := range walk {
		if l = append(l, way); len(l) == most || len(l) == tooMany {
			break
		}
	}
	return l
}

// brief is what a test tells of ways: how many there are, if they are more than a line holds.
func brief(l [][][]int) any {
	if len(l) > 20 {
		return len(l)
	}
	return l
}

func wantWays(t *testing.T, got, want [][][]int, of ...any) {
	t.Helper()
	if !same(got, want) {
		t.Fatalf("%v: %v; want %v", of, brief(got), brief(want))
	}
}

// both says something of parts that may be empty and of such that may not.
func both() []bool { return []bool{false, true} }

// maker makes counts and takers.
type maker struct{ *rand.Rand }

func newMaker(seed int64) maker { return maker{rand.New(rand.NewSource(seed))} }

// list has at most so many numbers.
func (m maker) list(length, least, most int) []int {
	l := make([]int, m.Intn(length+1))
	for i := range l {
		l[i] = least + m.Intn(most-least+1)
	}
	return l
}

// pair are counts and takers' numbers, with what Check says of them.
type pair struct {
	m, k []int
	e    api.Errno
}

// wrong are counts and numbers that may not be.
func wrong() []pair {
	return []pair{
		{all(1, 6), nil, api.ErrSplitMany},
		{nil, all(1, 6), api.ErrSplitMany},
		{all(0, 6), all(1, 5), api.ErrSplitMany},
		{all(1, 5), all(1, 6), api.ErrSplitMany},
		{all(1, 6), all(1, 6), api.ErrSplitMany},
		{all(0, 1000), nil, api.ErrSplitMany},
		{nil, all(6, 1000), api.ErrSplitMany},
		{all(1, 6), []int{0}, api.ErrSplitMany},
		{all(1, 6), []int{7}, api.ErrSplitMany},
		{[]int{7}, all(1, 6), api.ErrSplitMany},
		{[]int{-1}, all(1, 6), api.ErrSplitMany},
		{all(7, 6), nil, api.ErrSplitMany},
		{nil, all(0, 6), api.ErrSplitMany},
		{all(-1, 6), all(0, 6), api.ErrSplitMany},
		{[]int{math.MinInt}, all(math.MaxInt, 6), api.ErrSplitMany},
		{[]int{-1}, nil, api.ErrSplitCount},
		{[]int{7}, nil, api.ErrSplitCount},
		{[]int{7}, []int{1}, api.ErrSplitCount},
		{[]int{-1}, []int{1}, api.ErrSplitCount},
		{[]int{1}, []int{0}, api.ErrSplitCount},
		{[]int{0}, []int{0}, api.ErrSplitCount},
		{nil, []int{0}, api.ErrSplitCount},
		{nil, []int{7}, api.ErrSplitCount},
		{[]int{6}, []int{7}, api.ErrSplitCount},
		{[]int{6}, []int{-1}, api.ErrSplitCount},
		{[]int{7}, []int{7}, api.ErrSplitCount},
		{[]int{0, 0, 0, 0, 7}, all(6, 5), api.ErrSplitCount},
		{[]int{-1, 0, 0, 0, 0}, all(6, 5), api.ErrSplitCount},
		{all(6, 5), []int{6, 6, 6, 6, 0}, api.ErrSplitCount},
		{all(6, 5), []int{7, 1, 1, 1, 1}, api.ErrSplitCount},
		{[]int{math.MaxInt}, []int{1}, api.ErrSplitCount},
		{[]int{math.MinInt}, []int{1}, api.ErrSplitCount},
		{[]int{1}, []int{math.MaxInt}, api.ErrSplitCount},
		{[]int{1}, []int{math.MinInt}, api.ErrSplitCount},
		{[]int{1 << 32}, []int{1}, api.ErrSplitCount},
		{[]int{1}, []int{1<<32 + 1}, api.ErrSplitCount},
	}
}

// allowed are counts and numbers that may be, at the edges of that.
func allowed() []pair {
	return []pair{
		{nil, nil, api.OK},
		{[]int{}, []int{}, api.OK},
		{[]int{0}, nil, api.OK},
		{[]int{6}, nil, api.OK},
		{nil, []int{1}, api.OK},
		{nil, []int{6}, api.OK},
		{all(0, 5), all(1, 5), api.OK},
		{all(6, 5), all(6, 5), api.OK},
		{all(0, 5), all(6, 5), api.OK},
		{all(6, 5), all(1, 5), api.OK},
		{[]int{0, 1, 2, 3, 6}, []int{1, 2, 3, 5, 6}, api.OK},
		{all(1, 5), nil, api.OK},
		{nil, all(1, 5), api.OK},
		{[]int{2, 1}, []int{1, 2}, api.OK},
	}
}

// roomy is a list with things in its spare room.
func roomy(l ...int) []int { return append(slices.Clone(l), 71, 72, 73)[:len(l)] }

// whole is a list with its spare room.
func whole(l []int) []int { return slices.Clone(l[:cap(l)]) }

// spoil overwrites a way, all spare room too.
func spoil(way [][]int) {
	for i, part := range way {
		for j := range part[:cap(part)] {
			part[:cap(part)][j] = -999
		}
		way[i] = nil
	}
	for i := range way[:cap(way)] {
		way[:cap(way)][i] = []int{-999}
	}
}
