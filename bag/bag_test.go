package bag_test

import (
	"cmp"
	"math"
	"slices"
	"strings"
	"testing"

	"amalgam/bag"
)

func TestExamples(t *testing.T) {
	b, c := ofNumbers(1, 1, 2), ofNumbers(1, 3)
	if l := b.Items(); !slices.Equal(l, []bag.Item[int]{{X: 1, N: 2}, {X: 2, N: 1}}) {
		t.Errorf("Items of b: %v", l)
	}
	wantList(t, "Join", b.Join(c), 1, 1, 1, 2, 3)
	wantList(t, "Less", b.Less(c), 1, 2)
	wantList(t, "Common", b.Common(c), 1)
	want := [][]int{{}, {2}, {1}, {1, 2}, {1, 1}, {1, 1, 2}}
	if l := lists(b.Parts(), -1); !sameLists(l, want) {
		t.Errorf("Parts of b: %v", l)
	}
	if b.Add(2, -2) {
		t.Error("Add(2, -2) to b: true")
	}
	wantList(t, "b", b, 1, 1, 2)
}

func TestNewAndOfWithoutAnOrder(t *testing.T) {
	if bag.New[int](nil) != nil {
		t.Error("New without an order is no nil")
	}
	if bag.Of[int](nil) != nil || bag.Of(nil, 1, 2) != nil || bag.Of[thing](nil, []thing{}...) != nil {
		t.Error("Of without an order is no nil")
	}
}

func TestEmptyBags(t *testing.T) {
	gone := ofNumbers(1, 1)
	gone.Add(1, -2)
	for what, b := range map[string]*numbers{
		"New": bag.New(cmp.Compare[int]), "Of of nothing": ofNumbers(), "Of of an empty list": ofNumbers([]int{}...),
		"what was emptied": gone, "Less of itself": gone.Less(gone), "Common with nothing": ofNumbers(1).Common(nil),
	} {
		if b == nil {
			t.Fatalf("%s is nil", what)
		}
		wantList(t, what, b)
		if n := len(b.Items()); n != 0 {
			t.Errorf("%s: %d items", what, n)
		}
		if b.Count(0) != 0 || b.Count(1) != 0 || b.Add(0, -1) || !b.Add(0, 0) || b.Add(0, math.MinInt) {
			t.Errorf("%s: something is there", what)
		}
		if !b.Add(1, 2) || b.Count(1) != 2 {
			t.Errorf("%s: nothing can be put in", what)
		}
	}
}

func TestTwoNewBagsAreApart(t *testing.T) {
	a, b := bag.New(cmp.Compare[int]), bag.New(cmp.Compare[int])
	a.Add(1, 1)
	wantList(t, "the other one", b)
}

func TestOf(t *testing.T) {
	wantList(t, "of one", ofNumbers(7), 7)
	wantList(t, "of the same", ofNumbers(7, 7, 7), 7, 7, 7)
	wantList(t, "of some", ofNumbers(3, -1, 3, 2, -1, 3), -1, -1, 2, 3, 3, 3)
	texts := bag.Of(strings.Compare, "b", "", "ab", "b", "a")
	wantList(t, "of texts", texts, "", "a", "ab", "b", "b")
	backward := bag.Of(func(a, b int) int { return b - a }, 1, 3, 2, 3)
	wantList(t, "of numbers backward", backward, 3, 3, 2, 1)
	loud := bag.Of(func(a, b int) int { return 1000 * cmp.Compare(a, b) }, 2, 1, 2)
	wantList(t, "in an order that tells great numbers", loud, 1, 2, 2)
	ends := bag.Of(func(a, b int) int {
		return [3]int{math.MinInt, 0, math.MaxInt}[1+cmp.Compare(a, b)]
	}, 2, 1, 2, 3)
	wantList(t, "in an order that tells the least and the greatest number", ends, 1, 2, 2, 3)
}

func TestOfTellsTheFirst(t *testing.T) {
	b := bag.Of(byKey, thing{2, 1}, thing{1, 2}, thing{2, 3}, thing{1, 4}, thing{2, 5}, thing{0, 6})
	wantItems(t, "Of", b, item{thing{0, 6}, 1}, item{thing{1, 2}, 2}, item{thing{2, 1}, 3})
	wantList(t, "Of", b, thing{0, 6}, thing{1, 2}, thing{1, 2}, thing{2, 1}, thing{2, 1}, thing{2, 1})
	all := bag.Of(func(a, b thing) int { return 0 }, thing{5, 1}, thing{1, 2}, thing{9, 3})
	wantItems(t, "Of, where all are one and the same", all, item{thing{5, 1}, 3})
	if n := all.Count(thing{77, 77}); n != 3 {
		t.Errorf("Count, where all are one and the same: %d", n)
	}
}

func TestOfManyIsTheSameAsOneByOne(t *testing.T) {
	m := newMaker(1)
	for size := range 300 {
		var l []thing
		one := bag.New(byKey)
		for range size {
			x := m.thing(1 + size/3)
			l = append(l, x)
			one.Add(x, 1)
		}
		wantItems(t, "Of", bag.Of(byKey, l...), one.Items()...)
	}
}

func TestAdd(t *testing.T) {
	b := ofNumbers(2, 2, 5)
	for _, step := range []struct {
		x, n int
		ok   bool
		list []int
	}{
		{2, 0, true, []int{2, 2, 5}},
		{3, 0, true, []int{2, 2, 5}},
		{2, 1, true, []int{2, 2, 2, 5}},
		{2, -4, false, []int{2, 2, 2, 5}},
		{2, math.MinInt, false, []int{2, 2, 2, 5}},
		{2, -2, true, []int{2, 5}},
		{3, 2, true, []int{2, 3, 3, 5}},
		{1, 1, true, []int{1, 2, 3, 3, 5}},
		{6, 3, true, []int{1, 2, 3, 3, 5, 6, 6, 6}},
		{4, -1, false, []int{1, 2, 3, 3, 5, 6, 6, 6}},
		{3, -3, false, []int{1, 2, 3, 3, 5, 6, 6, 6}},
		{3, -2, true, []int{1, 2, 5, 6, 6, 6}},
		{3, -1, false, []int{1, 2, 5, 6, 6, 6}},
		{1, -1, true, []int{2, 5, 6, 6, 6}},
		{6, -3, true, []int{2, 5}},
		{5, -1, true, []int{2}},
		{2, -1, true, nil},
		{2, -1, false, nil},
		{2, 2, true, []int{2, 2}},
	} {
		if ok := b.Add(step.x, step.n); ok != step.ok {
			t.Errorf("Add(%d, %d): %t", step.x, step.n, ok)
		}
		wantList(t, "behind Add", b, step.list...)
		for x := range 8 {
			want := 0
			for _, y := range step.list {
				if x == y {
					want++
				}
			}
			if n := b.Count(x); n != want {
				t.Errorf("behind Add(%d, %d): Count of %d is %d; want %d", step.x, step.n, x, n, want)
			}
		}
		for _, x := range b.Items() {
			if x.N < 1 {
				t.Errorf("behind Add(%d, %d): %d is there %d times", step.x, step.n, x.X, x.N)
			}
		}
	}
}

func TestAddTellsTheFirst(t *testing.T) {
	b := bag.New(byKey)
	b.Add(thing{1, 1}, 2)
	b.Add(thing{1, 2}, 3)
	wantItems(t, "put in twice", b, item{thing{1, 1}, 5})
	b.Add(thing{1, 3}, -4)
	wantItems(t, "taken out by its like", b, item{thing{1, 1}, 1})
	b.Add(thing{1, 4}, 0)
	b.Add(thing{2, 4}, 0)
	b.Add(thing{1, 5}, -2)
	wantItems(t, "not changed", b, item{thing{1, 1}, 1})
	b.Add(thing{1, 6}, -1)
	wantItems(t, "gone", b)
	b.Add(thing{1, 7}, -1)
	b.Add(thing{1, 8}, 0)
	b.Add(thing{1, 9}, 1)
	b.Add(thing{1, 10}, 1)
	wantItems(t, "come again", b, item{thing{1, 9}, 2})
	b.Add(thing{0, 11}, 1)
	b.Add(thing{2, 12}, 1)
	b.Add(thing{1, 13}, -2)
	b.Add(thing{1, 14}, 1)
	wantItems(t, "come again between others", b, item{thing{0, 11}, 1}, item{thing{1, 14}, 1}, item{thing{2, 12}, 1})
}

func TestGreatCounts(t *testing.T) {
	b := bag.New(cmp.Compare[int])
	if !b.Add(1, math.MaxInt) || b.Count(1) != math.MaxInt || b.Len() != math.MaxInt {
		t.Errorf("%d times", b.Count(1))
	}
	if b.Add(1, math.MinInt) || b.Count(1) != math.MaxInt {
		t.Error("more was taken out than is there")
	}
	// No number is greater: the count stays there, and does not fall below 0.
	if !b.Add(1, 1) || b.Count(1) != math.MaxInt {
		t.Errorf("%d times", b.Count(1))
	}
	b.Add(2, 5)
	if n := b.Len(); n != math.MaxInt {
		t.Errorf("Len: %d", n)
	}
	if n := b.Join(b).Count(1); n != math.MaxInt {
		t.Errorf("Join: %d times", n)
	}
	if l := b.Less(ofNumbers(1)).Items(); l[0].N != math.MaxInt-1 || l[1].N != 5 {
		t.Errorf("Less: %v", l)
	}
	if l := lists(b.Parts(), 8); !sameLists(l, [][]int{{}, {2}, {2, 2}, {2, 2, 2}, {2, 2, 2, 2}, {2, 2, 2, 2, 2}, {1}, {1, 2}}) {
		t.Errorf("Parts: %v", l)
	}
	if !b.Add(1, -math.MaxInt) || b.Count(1) != 0 || len(b.Items()) != 1 {
		t.Error("all of them can't be taken out")
	}
}

func TestCountLooksAtTheOrderAlone(t *testing.T) {
	b := ofItems(item{thing{1, 1}, 2}, item{thing{3, 2}, 1})
	for key, want := range []int{0, 2, 0, 1, 0} {
		if n := b.Count(thing{key, 99}); n != want {
			t.Errorf("Count of %d: %d; want %d", key, n, want)
		}
	}
}

// TestThingsOfAnyType: what can't be held by == can lie in a bag.
func TestThingsOfAnyType(t *testing.T) {
	rows := bag.Of(slices.Compare[[]int], []int{2}, []int{1, 5}, []int{2}, nil)
	if l := rows.Items(); len(l) != 3 || len(l[0].X) != 0 || l[1].X[1] != 5 || l[2].N != 2 {
		t.Errorf("rows: %v", l)
	}
	none := bag.Of(func(a, b struct{}) int { return 0 }, struct{}{}, struct{}{})
	if none.Len() != 2 || len(none.Items()) != 1 {
		t.Errorf("things without memory: %d", none.Len())
	}
	calls := bag.Of(func(a, b func() int) int { return a() - b() }, func() int { return 2 }, func() int { return 1 })
	if l := calls.List(); l[0]() != 1 || l[1]() != 2 {
		t.Error("functions are not in order")
	}
	floats := bag.Of(cmp.Compare[float64], 1, math.NaN(), math.Inf(-1), math.NaN())
	if l := floats.Items(); len(l) != 3 || l[0].N != 2 || !math.IsInf(l[1].X, -1) || l[2].X != 1 {
		t.Errorf("floats: %v", l)
	}
	bags := bag.Of(func(a, b *numbers) int { return slices.Compare(a.List(), b.List()) }, ofNumbers(2), ofNumbers(1, 2), ofNumbers(2))
	if l := bags.Items(); len(l) != 2 || l[0].X.Len() != 2 || l[1].N != 2 {
		t.Errorf("bags: %v", l)
	}
}
