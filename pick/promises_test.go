package pick_test

import (
	"slices"
	"testing"

	"amalgam/api"
	"amalgam/pick"
)

// P10.1: the chapter's table of examples.
func TestP101Examples(t *testing.T) {
	for _, c := range []struct {
		want []int
		most int
		l    []uint32
		e    api.Errno
	}{
		{[]int{1, 1, 1}, 8, []uint32{3, 5, 6, 7}, api.OK},
		{[]int{2, 0, 0}, 8, []uint32{1, 3, 4, 6}, api.OK},
		{[]int{2, 1, 0}, 8, []uint32{1, 3, 6}, api.OK},
		{[]int{2, 2, 2}, 8, nil, api.OK},
		{[]int{0, 0, 0}, 7, nil, api.ErrTooMany},
		{[]int{0, 0, 0}, 8, []uint32{0, 1, 2, 3, 4, 5, 6, 7}, api.OK},
	} {
		if l, e := pick.List(example(), c.want, c.most); !slices.Equal(l, c.l) || e != c.e {
			t.Errorf("List by %v, most %d: %v, %v; want %v, %v", c.want, c.most, l, e, c.l, c.e)
		}
	}
	if s, e := pick.Sum(example(), all(0, 3), 5); !slices.Equal(s, []int{2, 1, 2}) || e != api.OK {
		t.Errorf("Sum of 5: %v, %v", s, e)
	}
	if s, e := pick.Sum(example(), all(0, 3), 8); s != nil || e != api.ErrArg {
		t.Errorf("Sum of 8: %v, %v", s, e)
	}
	if l := pick.Picked(example(), 6); !same(l, example()[1:]) {
		t.Errorf("Picked of 6: %v", l)
	}
	if l := pick.Picked(example(), 15); !same(l, example()) {
		t.Errorf("Picked of 15: %v", l)
	}
	if l, e := pick.List(nil, nil, 1); !slices.Equal(l, []uint32{0}) || e != api.OK {
		t.Errorf("List of none: %v, %v", l, e)
	}
}

// P10.1: the calls say the same of a mask: All goes through it, Fits says so, and Sum is that of the rows that are Picked.
func TestP101CallsAgree(t *testing.T) {
	m := newMaker(5)
	for range 200 {
		columns := 1 + m.Intn(6)
		rows, want := m.table(m.Intn(9), columns), m.list(columns, 2)
		l := slices.Collect(pick.All(rows, want))
		for mask := range uint32(1) << len(rows) {
			fits, e := pick.Fits(rows, want, mask)
			if _, told := slices.BinarySearch(l, mask); told != fits || e != api.OK {
				t.Fatalf("%v by %v, mask %d: told %v, fits %v, %v", rows, want, mask, told, fits, e)
			}
			picked := pick.Picked(rows, mask)
			sum, _ := pick.Sum(rows, want, mask)
			again, e := pick.Sum(picked, want, 1<<len(picked)-1)
			if !slices.Equal(sum, again) || e != api.OK {
				t.Fatalf("%v, mask %d: %v; of the picked rows: %v, %v", rows, mask, sum, again, e)
			}
		}
	}
}

// P10.2: a mask fits just if it fits by each column alone.
func TestP102ColumnByColumn(t *testing.T) {
	m := newMaker(6)
	met := [2]int{}
	for range 300 {
		columns := 1 + m.Intn(4)
		rows, want := m.table(m.Intn(7), columns), m.list(columns, 2)
		for mask := range uint32(1) << len(rows) {
			whole, _ := pick.Fits(rows, want, mask)
			each := true
			for j := range want {
				alone := all(api.WantAny, columns)
				alone[j] = want[j]
				fits, e := pick.Fits(rows, alone, mask)
				if e != api.OK {
					t.Fatalf("%v by %v: %v", rows, alone, e)
				}
				each = each && fits
			}
			if whole != each {
				t.Fatalf("%v by %v, mask %d: %v; by each column alone %v", rows, want, mask, whole, each)
			}
			if whole {
				met[1]++
			} else {
				met[0]++
			}
		}
	}
	if met[0] < 500 || met[1] < 500 {
		t.Errorf("how many did not fit, how many did: %v", met)
	}
}

// P10.2: what fits by all wants is what fits by each, of All too.
func TestP102Lists(t *testing.T) {
	m := newMaker(7)
	for range 100 {
		columns := 1 + m.Intn(10)
		rows, want := m.table(m.Intn(11), columns), m.list(columns, 2)
		left := slices.Collect(pick.All(rows, all(api.WantAny, columns)))
		for j := range want {
			alone := all(api.WantAny, columns)
			alone[j] = want[j]
			l := slices.Collect(pick.All(rows, alone))
			left = slices.DeleteFunc(left, func(mask uint32) bool { _, in := slices.BinarySearch(l, mask); return !in })
		}
		wantMasks(t, "All", slices.Collect(pick.All(rows, want)), left, rows, want)
	}
}

// P10.3: where no want is WantOne, more rows fit, too.
func TestP103More(t *testing.T) {
	m := newMaker(8)
	met := 0
	for range 200 {
		columns := m.Intn(5)
		rows, want := m.table(m.Intn(8), columns), m.list(columns, 1)
		l := slices.Collect(pick.All(rows, want))
		for _, mask := range l {
			for more := range uint32(1) << len(rows) {
				if more&mask != mask {
					continue
				}
				met++
				fits, e := pick.Fits(rows, want, more)
				if _, told := slices.BinarySearch(l, more); !fits || e != api.OK || !told {
					t.Fatalf("%v by %v: %d fits, %d: %v, %v, told %v", rows, want, mask, more, fits, e, told)
				}
			}
		}
	}
	if met < 1000 {
		t.Errorf("only %d masks were met", met)
	}
}
