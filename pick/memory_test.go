package pick_test

import (
	"math"
	"slices"
	"sync"
	"testing"

	"amalgam/pick"
)

// P3: what is handed in stays as it was, its spare room too.
func TestInputsStay(t *testing.T) {
	for _, c := range append(wrong(), allowed()...) {
		rows, want := roomyRows(c.rows), roomy(c.want...)
		wereRows, wereWant := wholeRows(rows), whole(want)
		pick.Check(rows, want)
		for _, mask := range []uint32{0, 1, 5, 1<<16 - 1, 1<<32 - 1} {
			sum, _ := pick.Sum(rows, want, mask)
			spoil(sum)
			pick.Fits(rows, want, mask)
			for _, row := range pick.Picked(rows, mask) {
				spoil(row)
			}
		}
		for mask := range pick.All(rows, want) {
			if mask > 9 {
				break
			}
		}
		l, _ := pick.List(rows, want, 9)
		spoil(l)
		if !same(wholeRows(rows), wereRows) || !slices.Equal(whole(want), wereWant) {
			t.Errorf("%v by %v became %v by %v", wereRows, wereWant, wholeRows(rows), whole(want))
		}
	}
}

// P3: what comes out is new memory.
func TestAnswersAreNewMemory(t *testing.T) {
	rows, want := example(), []int{1, 1, 1}
	sum, _ := pick.Sum(rows, want, 1)
	again, _ := pick.Sum(rows, want, 1)
	spoil(sum)
	if !slices.Equal(again, []int{1, 1, 0}) || !same(rows, example()) {
		t.Errorf("Sum of one row shares: %v, %v", again, rows)
	}
	l, _ := pick.List(rows, want, 4)
	m, _ := pick.List(rows, want, 4)
	spoil(l)
	wantMasks(t, "List", m, []uint32{3, 5, 6, 7}, "another list spoilt")
	if !same(rows, example()) || !slices.Equal(want, []int{1, 1, 1}) {
		t.Errorf("%v by %v", rows, want)
	}
}

// P3, K5: each row that is picked is new memory, also where rows that came in share theirs.
func TestPickedIsNewMemory(t *testing.T) {
	one := roomy(1, 2)
	rows := [][]int{one, one, one[:1], nil, one[:0]}
	want := [][]int{{1, 2}, {1, 2}, {1}, nil, nil}
	l, again := pick.Picked(rows, 31), pick.Picked(rows, 31)
	for i, row := range l {
		if extra := append(row, 5); len(extra) != len(row)+1 {
			t.Fatal("append")
		}
		spoil(row)
		if !same(l[i+1:], want[i+1:]) || !same(again, want) || !slices.Equal(whole(one)[:3], []int{1, 2, 71}) {
			t.Fatalf("row %d shares: %v, %v, %v", i, l, again, whole(one))
		}
	}
	l[0] = nil
	_ = append(l[:1], []int{9})
	if !same(again, want) || !same(rows, want) {
		t.Errorf("%v, %v", again, rows)
	}
}

// P3: nothing is kept from call to call, so that calls side by side answer as calls one behind the other.
func TestNothingIsKept(t *testing.T) {
	rows, want := example(), []int{2, 1, 0}
	walk := pick.All(rows, want)
	var wait sync.WaitGroup
	for range 8 {
		wait.Add(1)
		go func() {
			defer wait.Done()
			for range 50 {
				if l := slices.Collect(walk); !slices.Equal(l, []uint32{1, 3, 6}) {
					t.Errorf("All: %v", l)
				}
				if l, _ := pick.List(rows, want, 3); !slices.Equal(l, []uint32{1, 3, 6}) {
					t.Errorf("List: %v", l)
				}
				if s, _ := pick.Sum(rows, want, 7); !slices.Equal(s, []int{2, 2, 3}) {
					t.Errorf("Sum: %v", s)
				}
			}
		}()
	}
	wait.Wait()
}

// P1: no call panics, and each ends, at all rows and wants of strange numbers.
func TestStrangeNumbers(t *testing.T) {
	strange := []int{math.MinInt, -1, 0, 1, 2, 3, count, count + 1, math.MaxInt}
	several := [][]int{nil, {}}
	for _, n := range strange {
		several = append(several, []int{n}, []int{n, 1}, []int{0, n}, all(n, 10), all(n, 11))
	}
	for _, want := range several {
		for _, first := range several {
			for _, second := range several {
				for _, rows := range [][][]int{{first, second}, slices.Repeat([][]int{first, second}, 9)} {
					e := pick.Check(rows, want)
					for _, mask := range []uint32{0, 1, 3, 4, 1<<32 - 1} {
						sum, f := pick.Sum(rows, want, mask)
						if fits, g := pick.Fits(rows, want, mask); f != g || e != 0 && (f != e || fits || sum != nil) {
							t.Fatalf("%v by %v, mask %d: %v; %v, %v; %v, %v", rows, want, mask, e, sum, f, fits, g)
						}
						pick.Picked(rows, mask)
					}
					if l, f := pick.List(rows, want, 9); e != 0 && (f != e || l != nil) {
						t.Fatalf("%v by %v: %v; %v, %v", rows, want, e, l, f)
					}
				}
			}
		}
	}
}
