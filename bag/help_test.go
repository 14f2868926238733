package bag_test

import (
	"cmp"
	"iter"
	"math/rand"
	"slices"
	"testing"

	"amalgam/bag"
)

// thing is known to a bag by its Key alone; its Mark says which of several that are one and the same it is.
type thing struct{ Key, Mark int }

func byKey(a, b thing) int { return cmp.Compare(a.Key, b.Key) }

type (
	item    = bag.Item[thing]
	things  = bag.Bag[thing]
	numbers = bag.Bag[int]
)

// ofNumbers is a bag of numbers in their order.
func ofNumbers(l ...int) *numbers { return bag.Of(cmp.Compare[int], l...) }

// ofItems is a bag by keys into which these were put, in this order.
func ofItems(l ...item) *things {
	b := bag.New(byKey)
	for _, x := range l {
		b.Add(x.X, x.N)
	}
	return b
}

func wantList[T comparable](t *testing.T, what string, b *bag.Bag[T], want ...T) {
	t.Helper()
	if l := b.List(); !slices.Equal(l, want) {
		t.Errorf("%s: %v; want %v", what, l, want)
	}
	if n := b.Len(); n != len(want) {
		t.Errorf("%s: Len is %d; want %d", what, n, len(want))
	}
}

func wantItems(t *testing.T, what string, b *things, want ...item) {
	t.Helper()
	if l := b.Items(); !slices.Equal(l, want) {
		t.Errorf("%s: %v; want %v", what, l, want)
	}
}

// lists are the lists of the bags that an iterator tells, at most so many; then it is left.
func lists[T any](parts iter.Seq[*bag.Bag[T]], most int) [][]T {
	var l [][]T
	for p := range parts {
		l = append(l, p.List())
		if len(l) == most {
			break
		}
	}
	return l
}

func sameLists[T comparable](a, b [][]T) bool {
	return slices.EqualFunc(a, b, slices.Equal[[]T])
}

// heap is a second reading of a bag: the things lie as they came, each copy by itself, and everything is counted anew.
type heap []thing

func (h heap) count(key int) int {
	n := 0
	for _, x := range h {
		if x.Key == key {
			n++
		}
	}
	return n
}

// told is how the thing of a key is told: all copies that are put in later take the mark of the first.
func (h heap) told(x thing) thing {
	for _, y := range h {
		if y.Key == x.Key {
			return y
		}
	}
	return x
}

func (h heap) add(x thing, n int) (heap, bool) {
	if n < 0 && h.count(x.Key) < -n {
		return h, false
	}
	fresh := slices.Clone(h)
	for ; n > 0; n-- {
		fresh = append(fresh, fresh.told(x))
	}
	for ; n < 0; n++ {
		at := slices.IndexFunc(fresh, func(y thing) bool { return y.Key == x.Key })
		fresh = slices.Delete(fresh, at, at+1)
	}
	return fresh, true
}

// keys are the keys that are there, in order.
func (h heap) keys() []int {
	var l []int
	for _, x := range h {
		l = append(l, x.Key)
	}
	slices.Sort(l)
	return slices.Compact(l)
}

func (h heap) items() []item {
	var l []item
	for _, k := range h.keys() {
		l = append(l, item{X: h.told(thing{Key: k}), N: h.count(k)})
	}
	return l
}

func (h heap) join(c heap) heap {
	for _, x := range c {
		h, _ = h.add(x, 1)
	}
	return h
}

func (h heap) less(c heap) heap {
	for _, x := range c {
		h, _ = h.add(x, -1)
	}
	return h
}

func (h heap) common(c heap) heap { return h.less(h.less(c)) }

func (h heap) within(c heap) bool { return len(h.less(c)) == 0 }

// parts are all heaps that are within one, in the order that the document says: by the first key's count, then by the next one's, and so on.
func (h heap) parts() []heap {
	keys := h.keys()
	if len(keys) == 0 {
		return []heap{nil}
	}
	first := h.told(thing{Key: keys[0]})
	rest := slices.DeleteFunc(slices.Clone(h), func(x thing) bool { return x.Key == first.Key })
	var l []heap
	for n := range h.count(first.Key) + 1 {
		for _, p := range rest.parts() {
			l = append(l, append(slices.Repeat(heap{first}, n), p...))
		}
	}
	return l
}

// same: does a bag hold what a heap holds, told alike?
func (h heap) same(b *things) bool {
	for key := -1; key < 9; key++ {
		if b.Count(thing{key, -7}) != h.count(key) {
			return false
		}
	}
	var l []thing
	for _, x := range h.items() {
		l = append(l, slices.Repeat([]thing{x.X}, x.N)...)
	}
	return slices.Equal(b.Items(), h.items()) && slices.Equal(b.List(), l) && b.Len() == len(h)
}

// pair is a bag and the heap of the same things.
type pair struct {
	b *things
	h heap
}

// maker makes bags; the same ones at each run.
type maker struct {
	r    *rand.Rand
	mark int
}

func newMaker(seed int64) *maker { return &maker{r: rand.New(rand.NewSource(seed))} }

// thing is one of a few keys, with a mark that no other one has.
func (m *maker) thing(keys int) thing {
	m.mark++
	return thing{m.r.Intn(keys), m.mark}
}

func (m *maker) pair(keys, most int) pair {
	p := pair{b: bag.New(byKey)}
	for range m.r.Intn(most + 1) {
		p.change(m.thing(keys), m.r.Intn(6)-2)
	}
	return p
}

// change adds to both; do they answer alike?
func (p *pair) change(x thing, n int) bool {
	h, ok := p.h.add(x, n)
	p.h = h
	return p.b.Add(x, n) == ok
}
