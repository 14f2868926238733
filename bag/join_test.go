package bag_test

import (
	"cmp"
	"testing"

	"amalgam/bag"
)

func TestJoinLessCommon(t *testing.T) {
	for _, x := range []struct{ b, c, join, less, common []int }{
		{nil, nil, nil, nil, nil},
		{[]int{1}, nil, []int{1}, []int{1}, nil},
		{nil, []int{1}, []int{1}, nil, nil},
		{[]int{1, 1}, []int{1, 1}, []int{1, 1, 1, 1}, nil, []int{1, 1}},
		{[]int{1, 1, 1}, []int{1, 1}, []int{1, 1, 1, 1, 1}, []int{1}, []int{1, 1}},
		{[]int{1, 1}, []int{1, 1, 1}, []int{1, 1, 1, 1, 1}, nil, []int{1, 1}},
		{[]int{1, 3, 5}, []int{2, 4}, []int{1, 2, 3, 4, 5}, []int{1, 3, 5}, nil},
		{[]int{2, 4}, []int{1, 3, 5}, []int{1, 2, 3, 4, 5}, []int{2, 4}, nil},
		{[]int{1, 2, 2, 3}, []int{2, 3, 3, 4}, []int{1, 2, 2, 2, 3, 3, 3, 4}, []int{1, 2}, []int{2, 3}},
	} {
		b, c := ofNumbers(x.b...), ofNumbers(x.c...)
		wantList(t, "Join", b.Join(c), x.join...)
		wantList(t, "Less", b.Less(c), x.less...)
		wantList(t, "Common", b.Common(c), x.common...)
		if is := b.Within(c); is != (len(x.less) == 0) {
			t.Errorf("%v Within %v: %t", x.b, x.c, is)
		}
		wantList(t, "b", b, x.b...)
		wantList(t, "c", c, x.c...)
	}
}

func TestWithin(t *testing.T) {
	for _, x := range []struct {
		b, c []int
		want bool
	}{
		{[]int{1, 1, 2}, []int{1, 1, 2}, true},
		{[]int{1, 1, 2}, []int{1, 1, 1, 2}, true},
		{[]int{1, 1, 2}, []int{1, 1, 2, 2}, true},
		{[]int{1, 1, 2}, []int{0, 1, 1, 2, 3}, true},
		{[]int{1, 1, 1, 2}, []int{1, 1, 2}, false},
		{[]int{1, 1, 2, 2}, []int{1, 1, 1, 2}, false},
		{[]int{1, 1, 2}, []int{1, 1, 1, 3}, false},
		{[]int{1, 2}, []int{2, 2, 2}, false},
		{[]int{1, 2}, []int{1, 1, 1}, false},
		{nil, []int{1}, true},
		{[]int{1}, nil, false},
	} {
		if is := ofNumbers(x.b...).Within(ofNumbers(x.c...)); is != x.want {
			t.Errorf("%v Within %v: %t", x.b, x.c, is)
		}
	}
}

func TestWithANilBag(t *testing.T) {
	b := ofItems(item{thing{1, 1}, 2}, item{thing{2, 2}, 1})
	wantItems(t, "Join", b.Join(nil), b.Items()...)
	wantItems(t, "Less", b.Less(nil), b.Items()...)
	wantItems(t, "Common", b.Common(nil))
	if b.Within(nil) {
		t.Error("something is within nothing")
	}
	none := bag.New(byKey)
	wantItems(t, "Join of nothing", none.Join(nil))
	wantItems(t, "Less of nothing", none.Less(nil))
	wantItems(t, "Common of nothing", none.Common(nil))
	if !none.Within(nil) {
		t.Error("nothing is not within nothing")
	}
	for _, c := range []*things{b.Join(nil), b.Less(nil), b.Common(nil), none.Join(nil)} {
		if !c.Add(thing{5, 5}, 1) || c.Count(thing{5, 6}) != 1 {
			t.Error("what came out is no bag")
		}
	}
	wantItems(t, "b", b, item{thing{1, 1}, 2}, item{thing{2, 2}, 1})
}

func TestWithTheBagItself(t *testing.T) {
	b := ofItems(item{thing{1, 1}, 2}, item{thing{2, 2}, 1})
	wantItems(t, "Join", b.Join(b), item{thing{1, 1}, 4}, item{thing{2, 2}, 2})
	wantItems(t, "Less", b.Less(b))
	wantItems(t, "Common", b.Common(b), b.Items()...)
	if !b.Within(b) {
		t.Error("a bag is not within itself")
	}
	wantItems(t, "b", b, item{thing{1, 1}, 2}, item{thing{2, 2}, 1})
}

func TestToldAsTheFirstBagTells(t *testing.T) {
	b := ofItems(item{thing{1, 1}, 3}, item{thing{3, 3}, 1})
	c := ofItems(item{thing{0, 10}, 1}, item{thing{1, 11}, 1}, item{thing{2, 12}, 2}, item{thing{3, 13}, 4}, item{thing{5, 15}, 1})
	wantItems(t, "Join", b.Join(c), item{thing{0, 10}, 1}, item{thing{1, 1}, 4}, item{thing{2, 12}, 2}, item{thing{3, 3}, 5}, item{thing{5, 15}, 1})
	wantItems(t, "Join, the other way", c.Join(b), item{thing{0, 10}, 1}, item{thing{1, 11}, 4}, item{thing{2, 12}, 2}, item{thing{3, 13}, 5}, item{thing{5, 15}, 1})
	wantItems(t, "Less", b.Less(c), item{thing{1, 1}, 2})
	wantItems(t, "Less, the other way", c.Less(b), item{thing{0, 10}, 1}, item{thing{2, 12}, 2}, item{thing{3, 13}, 3}, item{thing{5, 15}, 1})
	wantItems(t, "Common", b.Common(c), item{thing{1, 1}, 1}, item{thing{3, 3}, 1})
	wantItems(t, "Common, the other way", c.Common(b), item{thing{1, 11}, 1}, item{thing{3, 13}, 1})
}

// TestWhatComesOutHasTheOrder: a bag that came out of another one has its order, and tells what that one tells.
func TestWhatComesOutHasTheOrder(t *testing.T) {
	backward := func(a, b thing) int { return cmp.Compare(b.Key, a.Key) }
	b := bag.Of(backward, thing{1, 1}, thing{2, 2}, thing{2, 3})
	var last *things
	for p := range b.Parts() {
		last = p
	}
	for what, out := range map[string]*things{"Join": b.Join(nil), "Less": b.Less(nil), "Common": b.Common(b), "the last part": last} {
		out.Add(thing{3, 4}, 1)
		out.Add(thing{2, 5}, 1)
		out.Add(thing{0, 6}, 1)
		wantItems(t, what, out, item{thing{3, 4}, 1}, item{thing{2, 2}, 3}, item{thing{1, 1}, 1}, item{thing{0, 6}, 1})
	}
}

// TestOfAnotherOrder: the other bag's things are seen by the order of the bag that is asked, so that what P6.1 says holds of any two.
func TestOfAnotherOrder(t *testing.T) {
	backward := func(a, b thing) int { return cmp.Compare(b.Key, a.Key) }
	pairs := func(a, b thing) int { return cmp.Compare(a.Key/2, b.Key/2) }
	b := bag.Of(byKey, thing{1, 1}, thing{1, 2}, thing{2, 3}, thing{4, 4})
	c := bag.Of(backward, thing{1, 5}, thing{2, 6}, thing{3, 7})
	wantItems(t, "Join", b.Join(c), item{thing{1, 1}, 3}, item{thing{2, 3}, 2}, item{thing{3, 7}, 1}, item{thing{4, 4}, 1})
	wantItems(t, "Less", b.Less(c), item{thing{1, 1}, 1}, item{thing{4, 4}, 1})
	wantItems(t, "Common", b.Common(c), item{thing{1, 1}, 1}, item{thing{2, 3}, 1})
	if !b.Common(c).Within(c) || b.Within(c) {
		t.Error("Within")
	}
	wantItems(t, "c", c, item{thing{3, 7}, 1}, item{thing{2, 6}, 1}, item{thing{1, 5}, 1})
	d := bag.Of(pairs, thing{2, 8}, thing{3, 9}, thing{0, 10})
	wantItems(t, "d", d, item{thing{0, 10}, 1}, item{thing{2, 8}, 2})
	wantItems(t, "d with c", d.Join(c), item{thing{0, 10}, 2}, item{thing{2, 8}, 4})
	wantItems(t, "d without c", d.Less(c))
	wantItems(t, "d and b", d.Common(b), item{thing{0, 10}, 1}, item{thing{2, 8}, 1})
	if !d.Within(c) || d.Within(b) {
		t.Error("Within, of d")
	}
	if all := []*things{b, c, d}; !holdsOfAll(all) {
		t.Error("P6.1 does not hold")
	}
}
