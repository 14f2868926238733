package terms_test

import (
	"maps"
	"math"
	"slices"
	"testing"

	"amalgam/api"
	"amalgam/terms"
)

func TestSizeAndVarsExamples(t *testing.T) {
	x := exampleTerm()
	if n, l := terms.Size(x), terms.Vars(x); n != 5 || !slices.Equal(l, []string{"X"}) {
		t.Errorf("Size %d, Vars %v", n, l)
	}
}

func TestSize(t *testing.T) {
	for want, x := range map[int]api.Term{1: v("X"), 2: under("X", 0, v("X")), 4: under("X", 3, sy(f, under("Y", 0, sy(a)))), 6: sy(plus, v("X"), v("X"), sy(f, v("X"), v("X"))), 41: row(41), 1 << 16: chain(1 << 16), 100000: row(100000)} {
		if n := terms.Size(x); n != want {
			t.Errorf("Size: %d; want %d", n, want)
		}
	}
	if n := terms.Size(api.Term{}); n != 1 {
		t.Errorf("Size of a symbol: %d", n)
	}
}

func wantVars(t *testing.T, x api.Term, want ...string) {
	t.Helper()
	l := terms.Vars(x)
	if !slices.Equal(l, want) {
		t.Errorf("Vars of %s: %q; want %q", written(x), l, want)
	}
	for _, name := range []string{"", "X", "X1", "X10", "X2", "Y", "Z", "_1", "_2", "x", "\xff"} {
		if got := terms.Has(x, name); got != slices.Contains(want, name) {
			t.Errorf("Has of %s and %q: %v", written(x), name, got)
		}
	}
}

func TestVarsAndHas(t *testing.T) {
	wantVars(t, sy(a))
	wantVars(t, sy(f, sy(a), sy(one)))
	wantVars(t, v("X"), "X")
	wantVars(t, sy(plus, v("Y"), v("X"), v("Y"), sy(f, v("X"), v("X"))), "X", "Y")
	wantVars(t, sy(plus, v("X10"), v("X2"), v("_1"), v("X"), v("X1")), "X", "X1", "X10", "X2", "_1")
	wantVars(t, sy(plus, v("x"), v("\xff")), "x", "\xff")
	wantVars(t, sy(99, sy(-1, v("Z"))), "Z")
}

// TestVarsBeneathVariables: what is beneath a variable stands in the term, too.
func TestVarsBeneathVariables(t *testing.T) {
	wantVars(t, under("Y", 3, v("X"), sy(a)), "X", "Y")
	wantVars(t, under("Y", 0, under("X", 1, sy(f, v("Z"), v("Y")))), "X", "Y", "Z")
}

func TestVarsOfManyTerms(t *testing.T) {
	for _, x := range manyTerms(3000) {
		names := map[string]int{}
		for _, p := range allPlaces(x) {
			if p.x.Var != "" {
				names[p.x.Var]++
			}
		}
		want := slices.Sorted(maps.Keys(names))
		if l := terms.Vars(x); !slices.Equal(l, want) {
			t.Fatalf("Vars of %s: %q; want %q", written(x), l, want)
		}
		for _, name := range append(want, "", "Q", "X", "_1") {
			if terms.Has(x, name) != (names[name] > 0) {
				t.Fatalf("Has of %s and %q: %v", written(x), name, terms.Has(x, name))
			}
		}
	}
}

func TestClone(t *testing.T) {
	for _, x := range append(manyTerms(2000), api.Term{}, under("X", 7, v("Y")), row(500)) {
		wantTerm(t, "Clone", terms.Clone(x), x)
	}
	if n := terms.Size(terms.Clone(chain(1 << 16))); n != 1<<16 {
		t.Errorf("Clone of a deep term has %d nodes", n)
	}
}

func wantAt(t *testing.T, x api.Term, path []int, want api.Term) {
	t.Helper()
	got, e := terms.At(x, path)
	if e != api.OK || written(got) != written(want) {
		t.Errorf("At of %s at %v: %s, %d; want %s", written(x), path, written(got), e, written(want))
	}
}

// wantNoPlace asks At and Put of a place that is none: beside the error there is nothing else.
func wantNoPlace(t *testing.T, x api.Term, path []int) {
	t.Helper()
	if got, e := terms.At(x, path); e != api.ErrTermsPlace || written(got) != written(api.Term{}) {
		t.Errorf("At of %s at %v: %s, %d", written(x), path, written(got), e)
	}
	if got, e := terms.Put(x, path, v("Z")); e != api.ErrTermsPlace || written(got) != written(api.Term{}) {
		t.Errorf("Put of %s at %v: %s, %d", written(x), path, written(got), e)
	}
}

func TestAtExamples(t *testing.T) {
	x := exampleTerm()
	wantAt(t, x, []int{1, 0}, sy(a))
	wantNoPlace(t, x, []int{1, 2})
	wantAt(t, x, nil, x)
	wantAt(t, x, []int{}, x)
}

func TestPlacesThatAreNone(t *testing.T) {
	x := exampleTerm()
	for _, path := range [][]int{
		{0, 0}, {1, 0, 0}, {1, 1, 0}, {1, 1, 0, 0, 0}, // too deep
		{-1}, {1, -1}, {-1, 0}, {0, -1}, {math.MinInt}, // below 0
		{2}, {1, 2}, {2, 0}, {1, 2, 0}, {math.MaxInt}, {1, math.MaxInt}, // too great
		make([]int, 1<<20),
	} {
		wantNoPlace(t, x, path)
	}
	wantNoPlace(t, v("X"), []int{0})
	wantNoPlace(t, api.Term{}, []int{0})
	wantNoPlace(t, under("X", 0, sy(a)), []int{1})
	wantNoPlace(t, under("X", 0, sy(a)), []int{0, 0})
}

// TestPlacesOfTheSpareRoom: arguments behind a list's end are none.
func TestPlacesOfTheSpareRoom(t *testing.T) {
	l := []api.Term{v("X"), v("Y"), v("Z")}
	wantNoPlace(t, sy(f, l[:2]...), []int{2})
	wantNoPlace(t, sy(f, l[:0]...), []int{0})
}

func TestAtBeneathVariables(t *testing.T) {
	x := under("X", 0, under("Y", 5, sy(f, v("Z"), sy(a))), v("W"))
	wantAt(t, x, []int{0}, under("Y", 5, sy(f, v("Z"), sy(a))))
	wantAt(t, x, []int{0, 0, 1}, sy(a))
	wantAt(t, x, []int{1}, v("W"))
}

func wantPut(t *testing.T, x api.Term, path []int, in, want api.Term) {
	t.Helper()
	got, e := terms.Put(x, path, in)
	if e != api.OK || written(got) != written(want) {
		t.Errorf("Put of %s at %v: %s, %d; want %s", written(x), path, written(got), e, written(want))
	}
}

func TestPut(t *testing.T) {
	x := exampleTerm()
	wantPut(t, x, nil, sy(one), sy(one))
	wantPut(t, x, []int{}, x, x)
	wantPut(t, x, []int{0}, sy(one), sy(f, sy(one), sy(f, sy(a), v("X"))))
	wantPut(t, x, []int{1}, v("Y"), sy(f, v("X"), v("Y")))
	wantPut(t, x, []int{1, 0}, x, sy(f, v("X"), sy(f, x, v("X"))))
	wantPut(t, x, []int{1, 1}, under("x", 9, sy(-1)), sy(f, v("X"), sy(f, sy(a), under("x", 9, sy(-1)))))
	wantPut(t, under("X", 3, v("Y"), sy(a)), []int{1}, sy(one), under("X", 3, v("Y"), sy(one)))
}

func TestAtAndPutOfManyTerms(t *testing.T) {
	m := newMaker(11)
	for _, x := range manyTerms(1500) {
		l := allPlaces(x)
		for _, p := range l {
			wantAt(t, x, p.path, p.x)
			wantNoPlace(t, x, slices.Concat(p.path, []int{len(p.x.Args)}))
			wantNoPlace(t, x, slices.Concat(p.path, []int{-1 - m.Intn(2), 0}))
			in := m.spoilt(4)
			got, e := terms.Put(x, p.path, in)
			if e != api.OK {
				t.Fatalf("Put of %s at %v: %d", written(x), p.path, e)
			}
			// What stands beside the place and above it is as it was, but for what lies beneath.
			for _, q := range allPlaces(got) {
				if below(q.path, p.path) || below(p.path, q.path) {
					continue
				}
				wantAt(t, x, q.path, q.x)
			}
			if terms.Size(got) != len(l)-terms.Size(p.x)+terms.Size(in) {
				t.Fatalf("Put of %s at %v has %d nodes", written(x), p.path, terms.Size(got))
			}
		}
	}
}

// below: does the first path lead to the second one's place, or to one beneath it?
func below(path, above []int) bool {
	return len(path) >= len(above) && slices.Equal(path[:len(above)], above)
}

// P3.2
func TestPutAndAtThereAndBack(t *testing.T) {
	m := newMaker(13)
	for _, x := range manyTerms(1500) {
		for _, p := range allPlaces(x) {
			in := m.spoilt(5)
			put, _ := terms.Put(x, p.path, in)
			wantAt(t, put, p.path, in)
			told, _ := terms.At(x, p.path)
			wantPut(t, x, p.path, told, x)
		}
	}
}
