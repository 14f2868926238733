package bag_test

import (
	"cmp"
	"slices"
	"sync"
	"testing"

	"amalgam/bag"
)

// alike: do two bags hold the same, told alike?
func alike(b, c *things) bool { return slices.Equal(b.Items(), c.Items()) }

// holdsOfAll: does P6.1 hold of any two?
func holdsOfAll(l []*things) bool {
	for _, b := range l {
		for _, c := range l {
			if !alike(b.Less(c).Join(b.Common(c)), b) || !alike(b.Join(c).Less(c), b) {
				return false
			}
		}
	}
	return true
}

// smallHeaps are all heaps of at most so many things of three keys; each thing has a mark of its own.
func smallHeaps(most, mark int) []heap {
	l := []heap{nil}
	for from := 0; most > 0; most-- {
		to := len(l)
		for _, h := range l[from:to] {
			for key := range 3 {
				l = append(l, append(slices.Clone(h), thing{key, mark + len(h)}))
			}
		}
		from = to
	}
	return l
}

func bagOf(h heap) *things { return bag.Of(byKey, h...) }

// settled is a heap whose things are told as a bag tells them.
func settled(h heap) heap { return heap(nil).join(h) }

// TestAllSmallBags: each call on any two small bags, against the second reading; P6.1 too.
func TestAllSmallBags(t *testing.T) {
	firsts, seconds := smallHeaps(4, 100), smallHeaps(3, 200)
	for _, first := range firsts {
		for _, second := range seconds {
			b, c := bagOf(first), bagOf(second)
			h, k := settled(first), settled(second)
			if !h.same(b) || !k.same(c) {
				t.Fatalf("Of %v: %v", h, b.Items())
			}
			if !h.join(k).same(b.Join(c)) || !h.less(k).same(b.Less(c)) || !h.common(k).same(b.Common(c)) || b.Within(c) != h.within(k) {
				t.Fatalf("%v and %v: Join %v, Less %v, Common %v, Within %t", h, k, b.Join(c).Items(), b.Less(c).Items(), b.Common(c).Items(), b.Within(c))
			}
			if !holdsOfAll([]*things{b, c}) {
				t.Fatalf("P6.1 of %v and %v", h, k)
			}
			if !h.same(b) || !k.same(c) {
				t.Fatalf("%v became %v, %v became %v", h, b.Items(), k, c.Items())
			}
		}
	}
}

// TestLongRowsOfCalls: some bags are changed, joined and cut in turn; each is as its heap behind each call.
func TestLongRowsOfCalls(t *testing.T) {
	m := newMaker(3)
	for range 60 {
		l := make([]pair, 4)
		for i := range l {
			l[i] = m.pair(6, 10)
		}
		for range 150 {
			p, q := &l[m.r.Intn(len(l))], l[m.r.Intn(len(l))]
			switch m.r.Intn(8) {
			case 0:
				if len(p.h) < 60 {
					*p = pair{p.b.Join(q.b), p.h.join(q.h)}
				}
			case 1:
				*p = pair{p.b.Less(q.b), p.h.less(q.h)}
			case 2:
				*p = pair{p.b.Common(q.b), p.h.common(q.h)}
			case 3:
				if p.b.Within(q.b) != p.h.within(q.h) {
					t.Fatalf("%v Within %v", p.h, q.h)
				}
			default:
				x, n := m.thing(6), m.r.Intn(7)-3
				if !p.change(x, n) {
					t.Fatalf("Add(%v, %d) behind which there is %v", x, n, p.h)
				}
			}
			for _, x := range l {
				if !x.h.same(x.b) {
					t.Fatalf("%v; want %v", x.b.Items(), x.h.items())
				}
			}
		}
		if bags := []*things{l[0].b, l[1].b, l[2].b, l[3].b}; !holdsOfAll(bags) {
			t.Fatal("P6.1 does not hold")
		}
	}
}

// wrongOrders are no orders.
func wrongOrders() map[string]func(a, b int) int {
	calls := 0
	return map[string]func(a, b int) int{
		"above":       func(a, b int) int { return 1 },
		"below":       func(a, b int) int { return -1 },
		"a ring":      func(a, b int) int { return (a-b+30)%3 - 1 },
		"by turns":    func(a, b int) int { calls++; return calls%3 - 1 },
		"its a alone": func(a, b int) int { return a - 2 },
		"its b alone": func(a, b int) int { return b - 2 },
		"not back":    func(a, b int) int { return max(a-b, 0) },
		"mixed":       func(a, b int) int { return (a*7919+b*104729)%5 - 2 },
		"gives up":    func(a, b int) int { panic("no order") },
		"gives up of some": func(a, b int) int {
			if (a+b)%3 == 0 {
				var none []int
				return none[a]
			}
			return a - b
		},
		"gives up with nothing": func(a, b int) int {
			if a == 2 {
				panic(nil)
			}
			return cmp.Compare(a, b)
		},
	}
}

// callAll makes each call of the chapter, on bags that came out too.
func callAll(b, c *numbers) {
	for _, d := range []*numbers{b, b.Join(c), b.Less(c), b.Common(c), b.Join(nil), b.Less(nil), b.Common(nil), b.Join(b), b.Less(b), b.Common(b)} {
		for x := range 7 {
			d.Add(x, x-3)
			d.Count(x)
		}
		d.Within(c)
		d.Within(nil)
		d.Len()
		d.Items()
		d.List()
		for p := range d.Parts() {
			p.Add(1, 1)
			p.Add(1, -1)
			if p.Within(c) || p.Len() > 3 {
				break
			}
		}
	}
}

// P1: of an order that is none the calls end, and none panics.
func TestAnOrderThatIsNone(t *testing.T) {
	m := newMaker(4)
	for _, order := range wrongOrders() {
		for size := range 80 {
			var l []int
			for range size {
				l = append(l, m.r.Intn(9))
			}
			b, c := bag.Of(order, l...), bag.New(order)
			for _, x := range l {
				c.Add(8-x, x-1)
			}
			callAll(b, c)
			callAll(b, ofNumbers(l...))
			callAll(ofNumbers(l...), b)
		}
	}
}

// P1: an order that changes the bag that asks it.
func TestAnOrderThatChangesTheBag(t *testing.T) {
	for step := range 12 {
		var b *numbers
		calls := 0
		order := func(x, y int) int {
			calls++
			if b != nil && calls%3 == 0 && calls < 500 {
				b.Add(step%5, step%4-2)
				b.Add((calls+step)%7, 1)
				b.Add(calls%7, -1)
			}
			return cmp.Compare(x, y)
		}
		b = bag.Of(order, 0, 1, 2, 3, 4, 5, 6, 3, 3)
		callAll(b, ofNumbers(1, 2, 3))
	}
}

// P1: a bag that no call gave may come in as the other one.
func TestAZeroBagAsTheOtherOne(t *testing.T) {
	b, zero := ofNumbers(1, 1), &numbers{}
	wantList(t, "Join", b.Join(zero), 1, 1)
	wantList(t, "Less", b.Less(zero), 1, 1)
	wantList(t, "Common", b.Common(zero))
	if b.Within(zero) || !ofNumbers().Within(zero) {
		t.Error("Within")
	}
}

func TestManyThings(t *testing.T) {
	const many = 1 << 17
	var l []int
	for i := range many {
		l = append(l, many-1-i, i/2)
	}
	b := ofNumbers(l...)
	if n := b.Len(); n != 2*many {
		t.Fatalf("Len: %d", n)
	}
	if n := len(b.Items()); n != many {
		t.Fatalf("%d items", n)
	}
	if b.Count(0) != 3 || b.Count(many-1) != 1 || b.Count(many) != 0 {
		t.Error("Count")
	}
	if !slices.IsSorted(b.List()) {
		t.Error("List is not in order")
	}
	if b.Join(b).Len() != 4*many || b.Less(b).Len() != 0 || b.Common(b).Len() != 2*many || !b.Within(b) {
		t.Error("with itself")
	}
	n := 0
	for p := range b.Parts() {
		if p.Len() > 1 {
			break
		}
		n++
	}
	if n != 3 {
		t.Errorf("%d parts ahead of the first one of two things", n)
	}
}

// P3: what a call answers hangs on the bag alone; many may read one at a time.
func TestManyReadOneBag(t *testing.T) {
	m := newMaker(5)
	p, q := m.pair(6, 12), m.pair(6, 12)
	p.change(thing{1, -1}, 2)
	join, less, common, within := p.h.join(q.h), p.h.less(q.h), p.h.common(q.h), p.h.within(q.h)
	parts := lists(p.b.Parts(), 50)
	var all sync.WaitGroup
	for range 8 {
		all.Go(func() {
			for range 40 {
				if !p.h.same(p.b) || !join.same(p.b.Join(q.b)) || !less.same(p.b.Less(q.b)) || !common.same(p.b.Common(q.b)) || p.b.Within(q.b) != within {
					t.Error("another answer")
				}
				if !sameLists(lists(p.b.Parts(), 50), parts) {
					t.Error("other parts")
				}
			}
		})
	}
	all.Wait()
}
