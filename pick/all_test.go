package pick_test

import (
	"slices"
	"testing"

	"amalgam/api"
	"amalgam/pick"
)

func TestAll(t *testing.T) {
	for _, c := range []struct {
		rows [][]int
		want []int
		l    []uint32
	}{
		{example(), []int{1, 1, 1}, []uint32{3, 5, 6, 7}},
		{example(), []int{2, 0, 0}, []uint32{1, 3, 4, 6}},
		{example(), []int{2, 1, 0}, []uint32{1, 3, 6}},
		{example(), []int{2, 2, 2}, nil},
		{example(), []int{0, 0, 0}, []uint32{0, 1, 2, 3, 4, 5, 6, 7}},
		{example(), []int{0, 0, 2}, []uint32{2, 3}},
		{nil, nil, []uint32{0}},
		{nil, []int{0, 0}, []uint32{0}},
		{nil, []int{1}, nil},
		{nil, []int{2}, nil},
		{tall(2, 0, 0), nil, []uint32{0, 1, 2, 3}},
		{[][]int{{0}, {1}, {0}}, []int{2}, []uint32{2, 3, 6, 7}},
		{[][]int{{2}}, []int{2}, nil},
		{[][]int{{2}}, []int{1}, []uint32{1}},
		{[][]int{{count}, {0}, {1}}, []int{2}, []uint32{4, 6}},
		{[][]int{{1, 0}, {0, 1}, {1, 1}}, []int{2, 2}, []uint32{3, 4}},
	} {
		wantMasks(t, "All", slices.Collect(pick.All(c.rows, c.want)), c.l, c.rows, c.want)
	}
}

// TestAllByWords holds All against the chapter's words: all masks, tried one by one.
func TestAllByWords(t *testing.T) {
	for columns := range 3 {
		for often := range 5 {
			for _, rows := range tables(often, lists(columns, 2)) {
				for _, want := range lists(columns, 2) {
					checkAll(t, rows, want)
				}
			}
		}
	}
	for _, rows := range tables(3, lists(3, 1)) {
		for _, want := range lists(3, 2) {
			checkAll(t, rows, want)
		}
	}
	m := newMaker(2)
	for range 300 {
		columns := m.Intn(11)
		checkAll(t, m.table(m.Intn(11), columns), m.list(columns, 2))
	}
	for range 10 {
		checkAll(t, m.table(16, 10), m.list(10, 2))
	}
}

func checkAll(t *testing.T, rows [][]int, want []int) {
	t.Helper()
	masks := fitting(rows, want)
	if got := slices.Collect(pick.All(rows, want)); !slices.Equal(got, masks) {
		t.Fatalf("All of %v by %v: %v; want %v", rows, want, got, masks)
	}
}

// TestAllOfSixteen: all masks of as many rows as there may be; those of one row, of none, of all.
func TestAllOfSixteen(t *testing.T) {
	n := uint32(0)
	for mask := range pick.All(tall(16, 1, 10), all(0, 10)) {
		if mask != n {
			t.Fatalf("%d; want %d", mask, n)
		}
		n++
	}
	if n != 1<<16 {
		t.Errorf("%d masks", n)
	}
	var single []uint32
	for i := range 16 {
		single = append(single, 1<<i)
	}
	wantMasks(t, "All", slices.Collect(pick.All(tall(16, 1, 10), all(2, 10))), single, "sixteen rows of 1")
	wantMasks(t, "All", slices.Collect(pick.All(tall(16, 0, 10), all(1, 10))), nil, "sixteen rows of 0")
	var own [][]int
	for i := range 10 {
		row := all(0, 10)
		row[i] = 1
		own = append(own, row)
	}
	wantMasks(t, "All", slices.Collect(pick.All(own, all(1, 10))), []uint32{1<<10 - 1}, "each column by a row of its own")
	wantMasks(t, "All", slices.Collect(pick.All(own, all(2, 10))), []uint32{1<<10 - 1}, "each column by a row of its own")
}

func TestAllOfWrongRows(t *testing.T) {
	for _, c := range wrong() {
		walk := pick.All(c.rows, c.want)
		if walk == nil {
			t.Fatalf("All of %v by %v is nil", c.rows, c.want)
		}
		for mask := range walk {
			t.Errorf("All of %v by %v: %d", c.rows, c.want, mask)
		}
	}
}

// TestAllLeftAndGoneThroughAgain: left at each place, and each time the whole again; within itself.
func TestAllLeftAndGoneThroughAgain(t *testing.T) {
	rows := [][]int{{1, 1, 0}, {0, 1, 1}, {1, 0, 2}, {0, 0, 1}, {1, 0, 0}}
	want := []int{2, 1, 0}
	masks := fitting(rows, want)
	walk := pick.All(rows, want)
	for stop := 1; stop <= len(masks); stop++ {
		var got []uint32
		for mask := range walk {
			if got = append(got, mask); len(got) == stop {
				break
			}
		}
		wantMasks(t, "All", got, masks[:stop], "left at", stop)
		wantMasks(t, "All", slices.Collect(walk), masks, "again behind", stop)
	}
	var outer []uint32
	for mask := range walk {
		outer = append(outer, mask)
		wantMasks(t, "All", slices.Collect(walk), masks, "within itself at", mask)
		for range walk {
			break
		}
	}
	wantMasks(t, "All", outer, masks, "around itself")
}

// TestAllIsNotAskedOnAgain: behind a yield that says false there is no other one.
func TestAllIsNotAskedOnAgain(t *testing.T) {
	asked := 0
	pick.All(example(), []int{0, 0, 0})(func(uint32) bool { asked++; return false })
	if asked != 1 {
		t.Errorf("asked %d times", asked)
	}
}

// TestAllReadsWhenCalled: what rows and wants become behind the call does not count.
func TestAllReadsWhenCalled(t *testing.T) {
	masks := []uint32{1, 3, 6}
	rows, want := example(), []int{2, 1, 0}
	walk := pick.All(rows, want)
	rows[0][0], rows[1], want[2] = 7, []int{-1}, 9
	wantMasks(t, "All", slices.Collect(walk), masks, "changed ahead of the walk")
	rows, want = example(), []int{2, 1, 0}
	walk = pick.All(rows, want)
	var got []uint32
	for mask := range walk {
		got = append(got, mask)
		rows[0][0], rows[1][1], rows[2], want[0], want[1] = 5, 0, nil, 0, 2
	}
	wantMasks(t, "All", got, masks, "changed while it goes on")
	rows, want = example(), []int{2, 1, 3}
	walk = pick.All(rows, want)
	want[2] = 0
	wantMasks(t, "All", slices.Collect(walk), nil, "made right behind the call")
	rows = [][]int{{1, 1, 0}, {0, 1, 1}, {1, 0}}
	walk = pick.All(rows, want)
	rows[2] = []int{1, 0, 2}
	wantMasks(t, "All", slices.Collect(walk), nil, "rows made right behind the call")
}

func TestList(t *testing.T) {
	for _, c := range []struct {
		rows [][]int
		want []int
		most int
		l    []uint32
		e    api.Errno
	}{
		{example(), []int{1, 1, 1}, 4, []uint32{3, 5, 6, 7}, 0},
		{example(), []int{1, 1, 1}, 1 << 62, []uint32{3, 5, 6, 7}, 0},
		{example(), []int{1, 1, 1}, 3, nil, api.ErrTooMany},
		{example(), []int{1, 1, 1}, 0, nil, api.ErrTooMany},
		{example(), []int{1, 1, 1}, -1, nil, api.ErrArg},
		{example(), []int{1, 1, 1}, -1 << 63, nil, api.ErrArg},
		{example(), []int{2, 2, 2}, 0, nil, 0},
		{example(), []int{2, 2, 2}, 9, nil, 0},
		{example(), []int{2, 2, 2}, -1, nil, api.ErrArg},
		{nil, nil, 0, nil, api.ErrTooMany},
		{nil, nil, 1, []uint32{0}, 0},
		{nil, nil, -1, nil, api.ErrArg},
		{nil, []int{1}, 0, nil, 0},
		{tall(16, 1, 1), []int{0}, 1<<16 - 1, nil, api.ErrTooMany},
	} {
		if l, e := pick.List(c.rows, c.want, c.most); !slices.Equal(l, c.l) || e != c.e || e != 0 && l != nil {
			t.Errorf("List of %v by %v, %d at most: %v, %v; want %v, %v", c.rows, c.want, c.most, l, e, c.l, c.e)
		}
	}
	if l, e := pick.List(tall(16, 1, 1), []int{0}, 1<<16); len(l) != 1<<16 || e != api.OK {
		t.Errorf("all masks of sixteen rows: %d, %v", len(l), e)
	}
	for _, c := range wrong() {
		for _, most := range []int{-1 << 63, -1, 0, 1, 1<<63 - 1} {
			if l, e := pick.List(c.rows, c.want, most); l != nil || e != c.e {
				t.Errorf("List of %v by %v, %d at most: %v, %v; want %v", c.rows, c.want, most, l, e, c.e)
			}
		}
	}
}

// TestListAtItsBound: just as many as fit, one less and one more.
func TestListAtItsBound(t *testing.T) {
	m := newMaker(3)
	for range 300 {
		columns := m.Intn(5)
		rows, want := m.table(m.Intn(9), columns), m.list(columns, 2)
		masks := fitting(rows, want)
		for _, most := range []int{len(masks), len(masks) + 1, 1 << 20} {
			if l, e := pick.List(rows, want, most); !slices.Equal(l, masks) || e != api.OK {
				t.Fatalf("List of %v by %v, %d at most: %v, %v; want %v", rows, want, most, l, e, masks)
			}
		}
		if l, e := pick.List(rows, want, len(masks)-1); len(masks) > 0 && (l != nil || e != api.ErrTooMany) {
			t.Fatalf("List of %v by %v, one less than %d: %v, %v", rows, want, len(masks), l, e)
		}
	}
}
