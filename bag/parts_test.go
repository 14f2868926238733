package bag_test

import (
	"iter"
	"slices"
	"testing"

	"amalgam/bag"
)

func TestPartsOfLittle(t *testing.T) {
	if l := lists(ofNumbers().Parts(), -1); !sameLists(l, [][]int{{}}) {
		t.Errorf("of an empty bag: %v", l)
	}
	if l := lists(ofNumbers(7).Parts(), -1); !sameLists(l, [][]int{{}, {7}}) {
		t.Errorf("of one thing: %v", l)
	}
	if l := lists(ofNumbers(7, 7, 7).Parts(), -1); !sameLists(l, [][]int{{}, {7}, {7, 7}, {7, 7, 7}}) {
		t.Errorf("of one thing thrice: %v", l)
	}
	want := [][]int{{}, {3}, {2}, {2, 3}, {1}, {1, 3}, {1, 2}, {1, 2, 3}}
	if l := lists(ofNumbers(3, 2, 1).Parts(), -1); !sameLists(l, want) {
		t.Errorf("of three things: %v", l)
	}
	want = [][]int{{}, {3}, {3, 3}, {1}, {1, 3}, {1, 3, 3}, {1, 1}, {1, 1, 3}, {1, 1, 3, 3}}
	if l := lists(ofNumbers(3, 1, 1, 3).Parts(), -1); !sameLists(l, want) {
		t.Errorf("of two things twice: %v", l)
	}
}

// P6.2
func TestPartsAreAllThatAreWithin(t *testing.T) {
	m := newMaker(2)
	for range 400 {
		p := m.pair(4, 7)
		want, product := p.h.parts(), 1
		for _, x := range p.b.Items() {
			product *= x.N + 1
		}
		n := 0
		for part := range p.b.Parts() {
			if n >= len(want) || !want[n].same(part) || !part.Within(p.b) {
				t.Fatalf("part %d of %v: %v", n, p.h, part.List())
			}
			n++
		}
		if n != product || n != len(want) {
			t.Fatalf("of %v: %d parts; want %d", p.h, n, product)
		}
		if !p.h.same(p.b) {
			t.Fatalf("%v became %v", p.h, p.b.List())
		}
	}
}

func TestPartsFirstAndLast(t *testing.T) {
	b := ofItems(item{thing{4, 1}, 2}, item{thing{2, 2}, 3}, item{thing{4, 3}, 1}, item{thing{9, 4}, 1})
	all := slices.Collect(b.Parts())
	if len(all) != 4*4*2 {
		t.Fatalf("%d parts", len(all))
	}
	wantItems(t, "the first", all[0])
	wantItems(t, "the second", all[1], item{thing{9, 4}, 1})
	wantItems(t, "the last", all[len(all)-1], b.Items()...)
	if !b.Within(all[len(all)-1]) || b.Within(all[len(all)-2]) {
		t.Error("b's like is the last alone")
	}
}

func TestPartsLeftEarly(t *testing.T) {
	b := ofNumbers(1, 1, 2, 3, 3)
	whole := lists(b.Parts(), -1)
	for most := 1; most <= len(whole); most++ {
		if l := lists(b.Parts(), most); !sameLists(l, whole[:most]) {
			t.Errorf("left behind %d parts: %v", most, l)
		}
		asked := 0
		b.Parts()(func(*numbers) bool { asked++; return asked < most })
		if asked != most {
			t.Errorf("asked %d times, though it was left behind %d", asked, most)
		}
	}
	wantList(t, "b", b, 1, 1, 2, 3, 3)
}

// TestPartsOfMuch: nobody can go through all of these, but all may begin to.
func TestPartsOfMuch(t *testing.T) {
	b := bag.New(byKey)
	for key := range 200 {
		b.Add(thing{key, key}, 1<<40)
	}
	n := 0
	for p := range b.Parts() {
		if p.Len() != n {
			t.Fatalf("part %d: %d things", n, p.Len())
		}
		if n++; n == 1000 {
			break
		}
	}
	if n != 1000 {
		t.Errorf("%d parts", n)
	}
}

func TestPartsGoneThroughAgain(t *testing.T) {
	b := ofNumbers(1, 1, 2)
	whole := lists(b.Parts(), -1)
	parts := b.Parts()
	for most := range len(whole) {
		lists(parts, most+1)
		if l := lists(parts, -1); !sameLists(l, whole) {
			t.Fatalf("gone through again, left ahead of it behind %d: %v", most+1, l)
		}
	}
}

func TestPartsWithinItself(t *testing.T) {
	b := ofNumbers(1, 1, 2)
	whole := lists(b.Parts(), -1)
	parts := b.Parts()
	var outer [][]int
	for p := range parts {
		outer = append(outer, p.List())
		if l := lists(parts, -1); !sameLists(l, whole) {
			t.Fatalf("within itself: %v", l)
		}
		if l := lists(parts, 3); !sameLists(l, whole[:3]) {
			t.Fatalf("within itself, left early: %v", l)
		}
		if l := lists(p.Parts(), -1); len(l) == 0 || !slices.Equal(l[len(l)-1], p.List()) {
			t.Fatalf("parts of the part %v: %v", p.List(), l)
		}
	}
	if !sameLists(outer, whole) {
		t.Errorf("around itself: %v", outer)
	}
}

// TestPartsSideBySide: two walks of one iterator go on by turns.
func TestPartsSideBySide(t *testing.T) {
	b := ofNumbers(1, 1, 2)
	parts := b.Parts()
	oneNext, oneStop := iter.Pull(parts)
	otherNext, otherStop := iter.Pull(parts)
	defer oneStop()
	defer otherStop()
	for _, want := range lists(b.Parts(), -1) {
		p, _ := oneNext()
		q, ok := otherNext()
		if !ok || !slices.Equal(p.List(), want) || !slices.Equal(q.List(), want) {
			t.Fatalf("%v, %v; want %v", p.List(), q.List(), want)
		}
	}
	if _, ok := oneNext(); ok {
		t.Error("there is more")
	}
}

// TestPartsOfABagThatIsChanged: b is as it was when the range begins, not when Parts was called, and not as it is later.
func TestPartsOfABagThatIsChanged(t *testing.T) {
	b := ofNumbers(1, 1, 2)
	whole := lists(b.Parts(), -1)
	var l [][]int
	for p := range b.Parts() {
		l = append(l, p.List())
		b.Add(1, -1)
		b.Add(2, 3)
		b.Add(0, 1)
		b.Add(9, 1)
	}
	if !sameLists(l, whole) {
		t.Errorf("changed within the walk: %v", l)
	}
	b = ofNumbers(5)
	parts := b.Parts()
	b.Add(5, -1)
	b.Add(1, 2)
	b.Add(2, 1)
	if l := lists(parts, -1); !sameLists(l, whole) {
		t.Errorf("changed ahead of the walk: %v", l)
	}
	b.Add(1, -2)
	if l := lists(parts, -1); !sameLists(l, [][]int{{}, {2}}) {
		t.Errorf("changed between two walks: %v", l)
	}
	b.Add(2, -1)
	if l := lists(parts, -1); !sameLists(l, [][]int{{}}) {
		t.Errorf("emptied between two walks: %v", l)
	}
	inner := 0
	for range parts {
		b.Add(3, 1)
		for range parts {
			inner++
		}
	}
	if inner != 2 {
		t.Errorf("a walk within another one saw %d parts", inner)
	}
}

// TestPartsOfAThingThatCameAgain: told as it was when the range began.
func TestPartsOfAThingThatCameAgain(t *testing.T) {
	b := ofItems(item{thing{1, 1}, 1})
	for p := range b.Parts() {
		if p.Len() == 1 {
			wantItems(t, "the part", p, item{thing{1, 1}, 1})
		}
		b.Add(thing{1, 1}, -1)
		b.Add(thing{1, 2}, 1)
	}
	wantItems(t, "b", b, item{thing{1, 2}, 1})
}

// TestPartsBodyMayPanic: what the loop's own body does is its own.
func TestPartsBodyMayPanic(t *testing.T) {
	defer func() {
		if recover() != "mine" {
			t.Error("the body's panic did not come through")
		}
	}()
	for range ofNumbers(1, 2).Parts() {
		panic("mine")
	}
}
