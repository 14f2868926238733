package terms_test

import (
	"slices"
	"sync"
	"testing"

	"amalgam/api"
	"amalgam/terms"
)

// roomy is a term of which each list has spare room, with something in it.
func roomy(t api.Term) api.Term {
	l := make([]api.Term, 0, len(t.Args)+2)
	for _, x := range t.Args {
		l = append(l, roomy(x))
	}
	copy(l[len(l):cap(l)], []api.Term{v("Spare"), sy(7, v("Spare"))})
	t.Args = l
	return t
}

// whole tells a term with its spare room.
func whole(t api.Term) string {
	l := t.Args[:cap(t.Args)]
	s := written(api.Term{Var: t.Var, Sym: t.Sym}) + "<"
	for _, x := range l {
		s += whole(x) + " "
	}
	return s + ">"
}

// spoil writes on all memory of a term, its spare room too.
func spoil(t api.Term) {
	l := t.Args[:cap(t.Args)]
	for i, x := range l {
		spoil(x)
		l[i] = under("Spoilt", 66, v("Spoilt"))
	}
}

// cells are the addresses of all memory of a term's lists.
func cells(t api.Term) []*api.Term {
	var l []*api.Term
	room := t.Args[:cap(t.Args)]
	for i := range room {
		l = append(l, &room[i])
		l = append(l, cells(room[i])...)
	}
	return l
}

// wantApart: no cell of the terms' lists is there twice.
func wantApart(t *testing.T, what string, l ...api.Term) {
	t.Helper()
	seen := map[*api.Term]int{}
	for _, x := range l {
		for _, c := range cells(x) {
			seen[c]++
			if seen[c] > 1 {
				t.Fatalf("%s: memory is shared", what)
			}
		}
	}
}

// askAll asks everything of a term, and spoils what comes out.
func askAll(x, y api.Term, path []int) {
	terms.Check(exampleSignature(), x)
	terms.Size(x)
	terms.Compare(x, y)
	terms.Same(x, y)
	terms.Has(x, "X")
	spoil(terms.Clone(x))
	l := terms.Vars(x)
	l = l[:cap(l)]
	for i := range l {
		l[i] = "Spoilt"
	}
	got, _ := terms.At(x, path)
	spoil(got)
	got, _ = terms.Put(x, path, y)
	spoil(got)
	for p, z := range terms.All(x) {
		spoil(z)
		for i := range p[:cap(p)] {
			p[:cap(p)][i] = -5
		}
	}
}

// P3: what is handed in, and its spare room, stays as it was.
func TestHandedInStays(t *testing.T) {
	m := newMaker(17)
	for range 300 {
		x, y := roomy(m.spoilt(12)), roomy(m.spoilt(6))
		wasX, wasY := whole(x), whole(y)
		for _, p := range allPlaces(x) {
			room := append(make([]int, 0, len(p.path)+3), p.path...)
			copy(room[len(room):cap(room)], []int{7, 8, 9})
			wasPath := slices.Clone(room[:cap(room)])
			askAll(x, y, room)
			askAll(x, y, append(slices.Clone(room), 99))
			if whole(x) != wasX || whole(y) != wasY || !slices.Equal(room[:cap(room)], wasPath) {
				t.Fatalf("changed: %s, %s, %v; was %s, %s, %v", whole(x), whole(y), room[:cap(room)], wasX, wasY, wasPath)
			}
		}
	}
}

func TestSignatureStays(t *testing.T) {
	room := append(make(api.Signature, 0, 8), exampleSignature()...)
	was := slices.Clone(room[:cap(room)])
	for _, x := range manyTerms(1500) {
		terms.Check(room, x)
	}
	if !slices.Equal(room[:cap(room)], was) {
		t.Errorf("changed: %v", room[:cap(room)])
	}
}

// P3: what comes out is new memory, and no two lists of it share any.
func TestComesOutNew(t *testing.T) {
	m := newMaker(19)
	for range 300 {
		x, y := roomy(m.spoilt(12)), roomy(m.spoilt(6))
		wantApart(t, "Clone", x, terms.Clone(x), terms.Clone(x))
		for _, p := range allPlaces(x) {
			one, _ := terms.At(x, p.path)
			other, _ := terms.At(x, p.path)
			wantApart(t, "At", x, one, other)
			one, _ = terms.Put(x, p.path, y)
			other, _ = terms.Put(x, p.path, y)
			wantApart(t, "Put", x, y, one, other)
		}
		l := []api.Term{x}
		for _, z := range terms.All(x) {
			l = append(l, z)
		}
		wantApart(t, "All", l...)
	}
}

// TestSharedMemoryComesOutApart: lists that share memory when they are handed in do not when they come out.
func TestSharedMemoryComesOutApart(t *testing.T) {
	l := []api.Term{v("X"), v("Y"), sy(a)}
	in := sy(f, l...)
	x := sy(f, in, in, sy(f, l[:2]...), sy(plus, l[:0]...))
	wantTerm(t, "Clone", terms.Clone(x), x)
	wantApart(t, "Clone", terms.Clone(x))
	got, _ := terms.Put(x, []int{0, 1}, in)
	wantApart(t, "Put", in, got)
	wantTerm(t, "Put", got, sy(f, sy(f, v("X"), in, sy(a)), in, sy(f, l[:2]...), sy(plus)))
	got, _ = terms.Put(in, []int{1}, in)
	wantApart(t, "Put of a term into itself", in, got)
	wantTerm(t, "Put of a term into itself", got, sy(f, v("X"), in, sy(a)))
	got, _ = terms.Put(x, nil, x)
	wantApart(t, "Put in the place of all", got)
	got, _ = terms.At(x, nil)
	wantApart(t, "At", got)
}

func TestPathsComeOutNew(t *testing.T) {
	seen := map[*int]int{}
	for range 2 {
		for path := range terms.All(exampleTerm()) {
			room := path[:cap(path)]
			for i := range room {
				seen[&room[i]]++
				if seen[&room[i]] > 1 {
					t.Fatal("two paths share memory")
				}
			}
		}
	}
}

func TestVarsComeOutNew(t *testing.T) {
	x := sy(plus, v("Y"), v("X"), v("Y"))
	one, other := terms.Vars(x), terms.Vars(x)
	room := one[:cap(one)]
	for i := range room {
		room[i] = "Spoilt"
	}
	if !slices.Equal(other, []string{"X", "Y"}) || !slices.Equal(terms.Vars(x), other) {
		t.Errorf("two answers share memory: %q", other)
	}
}

// P3: an answer hangs on the arguments alone, not on what was asked ahead of it or is asked at the same time.
func TestNothingIsKept(t *testing.T) {
	x := exampleTerm()
	all := terms.All(x)
	want := allPlaces(x)
	var group sync.WaitGroup
	for range 8 {
		group.Go(func() {
			for range 100 {
				wantCheck(t, "the example", exampleSignature(), x, api.OK)
				wantCheck(t, "a wrong one", exampleSignature(), sy(f), api.ErrTermsArgs)
				wantVars(t, x, "X")
				wantAt(t, x, []int{1, 0}, sy(a))
				wantNoPlace(t, x, []int{2})
				if l := told(all, -1); !samePlaces(l, want) {
					t.Errorf("All: %v", l)
				}
			}
		})
	}
	group.Wait()
}

// P1: terms as deep as the document's bound allows are answered by all calls.
func TestDeepTerms(t *testing.T) {
	const depth = 1 << 16
	x, y := chain(depth), chain(depth+1)
	bottom := make([]int, depth-1)
	if terms.Size(x) != depth || !terms.Has(x, "X") || terms.Has(x, "Y") || !slices.Equal(terms.Vars(x), []string{"X"}) {
		t.Error("Size, Has, Vars")
	}
	if terms.Compare(x, terms.Clone(x)) != 0 || terms.Compare(x, y) != -1 || terms.Compare(y, x) != 1 {
		t.Error("Compare")
	}
	wantAt(t, x, bottom, v("X"))
	got, e := terms.Put(x, bottom, sy(one, v("X")))
	if e != api.OK || !terms.Same(got, y) {
		t.Errorf("Put: %d", e)
	}
	if _, e := terms.At(x, make([]int, depth)); e != api.ErrTermsPlace {
		t.Errorf("At: %d", e)
	}
}
