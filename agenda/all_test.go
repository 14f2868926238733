package agenda_test

import (
	"iter"
	"slices"
	"testing"

	"amalgam/agenda"
)

// collect is what a walk tells, up to so many; below 0: to the end.
func collect(seq iter.Seq2[int, string], most int) []pair[string] {
	var l []pair[string]
	for ticket, x := range seq {
		if l = append(l, pair[string]{ticket, x}); len(l) == most {
			break
		}
	}
	return l
}

func wantWalk(t *testing.T, what string, seq iter.Seq2[int, string], want []pair[string]) {
	t.Helper()
	if got := collect(seq, -1); !slices.Equal(got, want) {
		t.Errorf("%s: %v; want %v", what, got, want)
	}
}

// G5
func TestAll(t *testing.T) {
	p := newBoth[string](t, 9)
	all := p.a.All()
	wantWalk(t, "of nothing", all, nil)
	p.push("x", 5)
	wantWalk(t, "of one", all, []pair[string]{{1, "x"}})
	p.push("", 5)
	p.push("z", 4)
	p.push("x", 6)
	p.push("y", 5)
	wantWalk(t, "of five", all, []pair[string]{{3, "z"}, {1, "x"}, {2, ""}, {5, "y"}, {4, "x"}})
	p.empty()
	wantWalk(t, "of nothing again", all, nil)
}

// G5: in the order in which Pop would tell them.
func TestAllIsTheOrderOfPop(t *testing.T) {
	m := newMaker(1)
	for range 300 {
		n := m.Intn(40)
		a := newAgenda[int](t, n+1)
		for i := range n {
			a.Push(i, m.Intn(9)-4)
		}
		for range m.Intn(20) {
			a.Weigh(1+m.Intn(n+1), m.Intn(9)-4)
			a.Drop(1 + m.Intn(3*n+1))
		}
		l := walk(a, -1)
		for i := range l {
			if got := tell(a.Pop()); got != (told[int]{l[i].x, l[i].ticket, true}) {
				t.Fatalf("Pop %d: %v; All: %v", i, got, l)
			}
		}
		if a.Len() != 0 {
			t.Fatalf("All tells %d things, %d are left", len(l), a.Len())
		}
	}
}

// G5: left at each place, and each time the whole again.
func TestAllLeftEarly(t *testing.T) {
	p := ofTexts(t, tree()...)
	all, whole := p.a.All(), p.b.all()
	for most := 1; most <= len(whole); most++ {
		if got := collect(all, most); !slices.Equal(got, whole[:most]) {
			t.Errorf("left behind %d: %v", most, got)
		}
		asked := 0
		all(func(int, string) bool { asked++; return asked < most })
		if asked != most {
			t.Errorf("asked %d times, though it was left behind %d", asked, most)
		}
		p.agree()
		wantWalk(t, "again", all, whole)
	}
	p.empty()
}

func TestAllWithinItself(t *testing.T) {
	p := ofTexts(t, 3, 1, 2, 1)
	all, whole := p.a.All(), p.b.all()
	var outer []pair[string]
	for ticket, x := range all {
		outer = append(outer, pair[string]{ticket, x})
		wantWalk(t, "within itself", all, whole)
		wantWalk(t, "another one", p.a.All(), whole)
		for range all {
			break
		}
	}
	if !slices.Equal(outer, whole) {
		t.Errorf("around itself: %v", outer)
	}
	p.agree()
}

// TestAllSideBySide: two walks go on by turns, the second one begun behind a change.
func TestAllSideBySide(t *testing.T) {
	p := ofTexts(t, 3, 1, 2)
	all := p.a.All()
	oneNext, oneStop := iter.Pull2(all)
	defer oneStop()
	otherNext, otherStop := iter.Pull2(all)
	defer otherStop()
	one, other := []int{}, []int{}
	for i := range 6 {
		if ticket, _, ok := oneNext(); ok {
			one = append(one, ticket)
		}
		if i == 0 {
			p.push("d", 2)
			p.weigh(2, 9)
			p.drop(1)
		}
		if ticket, _, ok := otherNext(); ok {
			other = append(other, ticket)
		}
		p.agree()
	}
	if !slices.Equal(one, []int{2, 3, 1}) || !slices.Equal(other, []int{3, 4, 2}) {
		t.Errorf("%v and %v", one, other)
	}
}

// changes are calls that change an agenda of the tickets 1 to 4.
func changes() map[string]func(both[string]) {
	return map[string]func(both[string]){
		"Push":        func(p both[string]) { p.push("new", 0) },
		"Push behind": func(p both[string]) { p.push("new", 99) },
		"Pop":         func(p both[string]) { p.pop() },
		"Drop":        func(p both[string]) { p.drop(1) },
		"Drop of 4":   func(p both[string]) { p.drop(4) },
		"Weigh":       func(p both[string]) { p.weigh(1, -5) },
		"Weigh of 4":  func(p both[string]) { p.weigh(4, 50) },
		"all out":     func(p both[string]) { p.empty() },
		"others in": func(p both[string]) {
			p.empty()
			for i := range 9 {
				p.push("other", -i)
			}
		},
	}
}

// G5: each time anew, as the things are when it is begun to go through, not when All was called.
func TestAllIsBegunAnew(t *testing.T) {
	for what, change := range changes() {
		p := ofTexts(t, 3, 1, 2, 1)
		all := p.a.All()
		for range 3 {
			wantWalk(t, what, all, p.b.all())
			change(p)
			wantWalk(t, what+" has been", all, p.b.all())
		}
	}
}

// G5: what is done while it goes on does not count for it, at whichever thing it is done.
func TestAllGoesOnAsItWasBegun(t *testing.T) {
	for what, change := range changes() {
		for at := range 4 {
			p := ofTexts(t, 3, 1, 2, 1)
			all, whole := p.a.All(), p.b.all()
			var got []pair[string]
			for ticket, x := range all {
				if len(got) == at {
					change(p)
				}
				got = append(got, pair[string]{ticket, x})
			}
			if !slices.Equal(got, whole) {
				t.Errorf("%s at %d: %v; want %v", what, at, got, whole)
			}
			wantWalk(t, what+", anew", all, p.b.all())
		}
		p := ofTexts(t, 3, 1, 2, 1)
		all, whole := p.a.All(), p.b.all()
		var got []pair[string]
		for ticket, x := range all {
			change(p)
			got = append(got, pair[string]{ticket, x})
		}
		if !slices.Equal(got, whole) {
			t.Errorf("%s at each: %v; want %v", what, got, whole)
		}
	}
}

// G5: all is done while it is gone through.
func TestAllWhileItIsDone(t *testing.T) {
	p := ofTexts(t, tree()...)
	n := 0
	for ticket := range p.a.All() {
		p.drop(ticket)
		n++
	}
	if n != len(tree()) || p.a.Len() != 0 {
		t.Errorf("%d told, %d are left", n, p.a.Len())
	}
}

// G5: it changes nothing: an agenda that is looked at all the time answers as one that is not.
func TestAllChangesNothing(t *testing.T) {
	m := newMaker(2)
	seen, unseen := newAgenda[int](t, 30), newAgenda[int](t, 30)
	look := func() {
		walk(seen, -1)
		walk(seen, 1+m.Intn(5))
		seen.Peek()
		seen.Len()
	}
	for range 3000 {
		for range m.Intn(4) {
			look()
		}
		x, weight, ticket := m.Intn(100), m.Intn(5), 1+m.Intn(1000)
		switch m.Intn(5) {
		case 0, 1:
			n, e := seen.Push(x, weight)
			if k, f := unseen.Push(x, weight); n != k || e != f {
				t.Fatalf("Push: %d, %v and %d, %v", n, e, k, f)
			}
		case 2:
			if one, other := tell(seen.Pop()), tell(unseen.Pop()); one != other {
				t.Fatalf("Pop: %v and %v", one, other)
			}
		case 3:
			if one, other := seen.Drop(ticket), unseen.Drop(ticket); one != other {
				t.Fatalf("Drop: %v and %v", one, other)
			}
		case 4:
			if one, other := seen.Weigh(ticket, weight), unseen.Weigh(ticket, weight); one != other {
				t.Fatalf("Weigh: %v and %v", one, other)
			}
		}
	}
	for range 31 {
		look()
		if one, other := tell(seen.Pop()), tell(unseen.Pop()); one != other {
			t.Fatalf("Pop: %v and %v", one, other)
		}
	}
}

// TestAllIsNeverNil: of nothing there is a walk, too.
func TestAllIsNeverNil(t *testing.T) {
	a, _ := agenda.New[error](1)
	if a.All() == nil {
		t.Error("nil")
	}
}
