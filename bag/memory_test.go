package bag_test

import (
	"cmp"
	"slices"
	"testing"

	"amalgam/bag"
)

// spoilt is a thing that no bag of these tests has.
const spoilt = -999

// spoilNumbers overwrites a list, its spare room too.
func spoilNumbers(l []int) {
	for i := range l[:cap(l)] {
		l[:cap(l)][i] = spoilt
	}
}

func spoilItems(l []bag.Item[int]) {
	for i := range l[:cap(l)] {
		l[:cap(l)][i] = bag.Item[int]{X: spoilt, N: spoilt}
	}
}

// roomy is a list with things in its spare room.
func roomy(l ...int) []int { return append(slices.Clone(l), 71, 72, 73)[:len(l)] }

// P3: the list that comes in stays as it was, its spare room too, and is not kept.
func TestOfDoesNotTouchOrKeepTheList(t *testing.T) {
	for size := range 60 {
		var l []int
		for i := range size {
			l = append(l, (size-i)*7%11)
		}
		in := roomy(l...)
		before := slices.Clone(in[:len(l)+3])
		b := bag.Of(cmp.Compare[int], in...)
		want := slices.Sorted(slices.Values(l))
		b.Add(100, 1)
		b.Add(100, -1)
		if !slices.Equal(in[:len(l)+3], before) {
			t.Fatalf("the list %v became %v", before, in[:len(l)+3])
		}
		spoilNumbers(in)
		wantList(t, "Of", b, want...)
	}
}

// P3: lists that come out are new memory, each time anew.
func TestItemsAndListAreNewMemory(t *testing.T) {
	b := ofNumbers(3, 1, 2, 1)
	for range 3 {
		items, list := b.Items(), b.List()
		againItems, againList := b.Items(), b.List()
		spoilItems(items)
		spoilNumbers(list)
		if !slices.Equal(againItems, []bag.Item[int]{{X: 1, N: 2}, {X: 2, N: 1}, {X: 3, N: 1}}) || !slices.Equal(againList, []int{1, 1, 2, 3}) {
			t.Fatalf("two answers share memory: %v, %v", againItems, againList)
		}
		wantList(t, "b", b, 1, 1, 2, 3)
		_ = append(b.Items(), bag.Item[int]{X: spoilt, N: 1})
		_ = append(b.List(), spoilt)
		b.Add(4, 1)
		wantList(t, "b, a thing put in", b, 1, 1, 2, 3, 4)
		b.Add(4, -1)
	}
}

// P3: lists that came out stay as they were, whatever is added to the bag.
func TestListsStayAsTheyWere(t *testing.T) {
	b := ofNumbers(1, 2, 2, 4)
	items, list := b.Items(), b.List()
	for x := range 9 {
		b.Add(x, 3)
	}
	for x := range 9 {
		b.Add(x, -3)
	}
	b.Add(1, -1)
	if !slices.Equal(items, []bag.Item[int]{{X: 1, N: 1}, {X: 2, N: 2}, {X: 4, N: 1}}) || !slices.Equal(list, []int{1, 2, 2, 4}) {
		t.Errorf("%v, %v", items, list)
	}
}

// shake puts things in and takes some out, at all places of a bag.
func shake(b *numbers) {
	for x := range 10 {
		b.Add(x, 2)
	}
	for x := range 10 {
		b.Add(x, -1)
	}
	b.Add(1, -1)
	b.Add(spoilt, 1)
	b.Add(-spoilt, 1)
}

// P3: a bag that came out is its owner's, whatever is added to it or to those that it came from.
func TestBagsAreApart(t *testing.T) {
	calls := map[string]func(b, c *numbers) *numbers{
		"Join": (*numbers).Join, "Less": (*numbers).Less, "Common": (*numbers).Common,
		"Join with nil":   func(b, _ *numbers) *numbers { return b.Join(nil) },
		"Less of nil":     func(b, _ *numbers) *numbers { return b.Less(nil) },
		"Common with b":   func(b, _ *numbers) *numbers { return b.Common(b) },
		"Join with b":     func(b, _ *numbers) *numbers { return b.Join(b) },
		"Join of nothing": func(_, c *numbers) *numbers { return ofNumbers().Join(c) },
	}
	first, second := []int{1, 1, 2, 5, 7, 7}, []int{1, 5, 5, 6}
	for what, call := range calls {
		b, c := ofNumbers(first...), ofNumbers(second...)
		out := call(b, c)
		want := out.List()
		again := call(b, c)
		shake(out)
		wantList(t, what+": b, behind what was added to what came out", b, first...)
		wantList(t, what+": c, behind what was added to what came out", c, second...)
		wantList(t, what+": another answer", again, want...)
		out = call(b, c)
		shake(b)
		shake(c)
		wantList(t, what+": behind what was added to both", out, want...)
	}
}

// P3: each part is a new bag, and this walk and the next one go on as if nothing had been done to it.
func TestPartsAreApart(t *testing.T) {
	b := ofNumbers(1, 1, 2, 3)
	want := lists(b.Parts(), -1)
	parts := b.Parts()
	for range 2 {
		i := 0
		for p := range parts {
			if !slices.Equal(p.List(), want[i]) {
				t.Fatalf("part %d: %v; want %v", i, p.List(), want[i])
			}
			shake(p)
			i++
		}
	}
	wantList(t, "b", b, 1, 1, 2, 3)
	all := slices.Collect(parts)
	for i, p := range all {
		shake(p)
		for j, q := range all[i+1:] {
			if !slices.Equal(q.List(), want[i+1+j]) {
				t.Fatalf("part %d became %v", i+1+j, q.List())
			}
		}
	}
	all = slices.Collect(parts)
	shake(b)
	for i, p := range all {
		if !slices.Equal(p.List(), want[i]) {
			t.Errorf("part %d became %v behind what was added to b", i, p.List())
		}
	}
}

// TestBagsOfOneListAreApart: two bags of one and the same list.
func TestBagsOfOneListAreApart(t *testing.T) {
	l := roomy(2, 1)
	b, c := ofNumbers(l...), ofNumbers(l...)
	shake(b)
	wantList(t, "the other one", c, 1, 2)
	if !slices.Equal(l, []int{2, 1}) {
		t.Errorf("the list: %v", l)
	}
}
