package terms_test

import (
	"iter"
	"slices"
	"testing"

	"amalgam/api"
	"amalgam/terms"
)

// samePlaces: are these the same places, with the same terms?
func samePlaces(l, want []place) bool {
	return slices.EqualFunc(l, want, func(p, q place) bool {
		return slices.Equal(p.path, q.path) && written(p.x) == written(q.x)
	})
}

// told are the places that an iterator tells, at most so many; then it is left.
func told(all iter.Seq2[[]int, api.Term], most int) []place {
	var l []place
	for path, x := range all {
		l = append(l, place{path, x})
		if len(l) == most {
			break
		}
	}
	return l
}

func TestAllGoesThroughThePlaces(t *testing.T) {
	x := exampleTerm()
	want := []place{{nil, x}, {[]int{0}, v("X")}, {[]int{1}, sy(f, sy(a), v("X"))}, {[]int{1, 0}, sy(a)}, {[]int{1, 1}, v("X")}}
	if l := told(terms.All(x), -1); !samePlaces(l, want) {
		t.Errorf("All: %v", l)
	}
	if l := told(terms.All(v("X")), -1); !samePlaces(l, []place{{nil, v("X")}}) {
		t.Errorf("All of a variable: %v", l)
	}
	x = under("X", 2, under("Y", 0, sy(a)), sy(-1))
	want = []place{{nil, x}, {[]int{0}, under("Y", 0, sy(a))}, {[]int{0, 0}, sy(a)}, {[]int{1}, sy(-1)}}
	if l := told(terms.All(x), -1); !samePlaces(l, want) {
		t.Errorf("All of what is beneath variables: %v", l)
	}
}

// P3.3
func TestAllOfManyTerms(t *testing.T) {
	for _, x := range manyTerms(2500) {
		l := told(terms.All(x), -1)
		if !samePlaces(l, allPlaces(x)) {
			t.Fatalf("All of %s: %v", written(x), l)
		}
		if n := terms.Size(x); n != len(l) {
			t.Fatalf("All of %s goes through %d places; Size is %d", written(x), len(l), n)
		}
	}
}

func TestAllOfADeepTerm(t *testing.T) {
	const depth = 1 << 10
	n := 0
	for path, x := range terms.All(chain(depth)) {
		if len(path) != n || terms.Size(x) != depth-n {
			t.Fatalf("at %d: a path of %d, a term of %d", n, len(path), terms.Size(x))
		}
		n++
	}
	if n != depth {
		t.Errorf("%d places", n)
	}
	for path := range terms.All(chain(1 << 16)) {
		if len(path) > 10 {
			break
		}
	}
}

func TestAllLeftEarly(t *testing.T) {
	x := sy(plus, exampleTerm(), v("Y"), exampleTerm())
	whole := allPlaces(x)
	for most := 1; most <= len(whole); most++ {
		if l := told(terms.All(x), most); !samePlaces(l, whole[:most]) {
			t.Errorf("left behind %d places: %v", most, l)
		}
		asked := 0
		terms.All(x)(func([]int, api.Term) bool { asked++; return asked < most })
		if asked != most {
			t.Errorf("asked %d times, though it was left behind %d", asked, most)
		}
	}
}

func TestAllGoneThroughAgain(t *testing.T) {
	x := sy(plus, exampleTerm(), v("Y"))
	whole := allPlaces(x)
	all := terms.All(x)
	for most := range len(whole) {
		told(all, most+1)
		if l := told(all, -1); !samePlaces(l, whole) {
			t.Fatalf("gone through again, left ahead of it behind %d: %v", most+1, l)
		}
	}
}

func TestAllWithinItself(t *testing.T) {
	x := exampleTerm()
	whole := allPlaces(x)
	all := terms.All(x)
	var outer []place
	for path, y := range all {
		outer = append(outer, place{path, y})
		if l := told(all, -1); !samePlaces(l, whole) {
			t.Fatalf("within itself: %v", l)
		}
		if l := told(all, 3); !samePlaces(l, whole[:3]) {
			t.Fatalf("within itself, left early: %v", l)
		}
	}
	if !samePlaces(outer, whole) {
		t.Errorf("around itself: %v", outer)
	}
}

// TestAllSideBySide: two walks of one iterator go on by turns.
func TestAllSideBySide(t *testing.T) {
	x := exampleTerm()
	all := terms.All(x)
	oneNext, oneStop := iter.Pull2(all)
	otherNext, otherStop := iter.Pull2(all)
	defer oneStop()
	defer otherStop()
	for _, p := range allPlaces(x) {
		onePath, y, _ := oneNext()
		otherPath, z, ok := otherNext()
		if !ok || !samePlaces([]place{{onePath, y}, {otherPath, z}}, []place{p, p}) {
			t.Fatalf("%v %s, %v %s", onePath, written(y), otherPath, written(z))
		}
	}
	if _, _, ok := oneNext(); ok {
		t.Error("there is more")
	}
}

// P3: what All goes through is the term of the call, whatever becomes of its memory.
func TestAllDoesNotKeepTheTerm(t *testing.T) {
	x := exampleTerm()
	want := allPlaces(terms.Clone(x))
	all := terms.All(x)
	x.Args[0] = v("Spoilt")
	x.Args[1].Args[0] = v("Spoilt")
	if l := told(all, -1); !samePlaces(l, want) {
		t.Errorf("changed ahead of the walk: %v", l)
	}
	x = exampleTerm()
	var l []place
	for path, y := range terms.All(x) {
		l = append(l, place{path, y})
		x.Args[1].Args[1] = v("Spoilt")
		x.Args[1].Args = nil
		x.Args = x.Args[:2]
		x.Args[1] = exampleTerm()
	}
	if !samePlaces(l, want) {
		t.Errorf("changed within the walk: %v", l)
	}
}

// P3: what All tells may be changed; neither this walk nor the next one goes another way.
func TestAllTellsNewMemory(t *testing.T) {
	x := exampleTerm()
	want := allPlaces(terms.Clone(x))
	all := terms.All(x)
	for range 2 {
		i := 0
		for path, y := range all {
			if !samePlaces([]place{{path, y}}, want[i:i+1]) {
				t.Fatalf("at %d: %v, %s", i, path, written(y))
			}
			spoil(y)
			for j := range path[:cap(path)] {
				path[:cap(path)][j] = 77
			}
			i++
		}
	}
	wantTerm(t, "the term", x, want[0].x)
}
