package minimise_test

import (
	"slices"
	"strconv"
	"testing"

	"amalgam/api"
)

// The chapter's examples.
func TestExamples(t *testing.T) {
	s, vars := example()[:5], list("X Y")
	wantMinimise(t, s, vars, members(t, "X -> a, Y -> a;X -> Y;X -> one"), members(t, "X -> Y;X -> one"), api.OK)
	wantMinimise(t, s, vars, members(t, "X -> Y;Y -> X;X -> Z, Y -> Z"), members(t, "X -> Y"), api.OK)
	wantMinimise(t, s, vars, members(t, "X -> plus(Y,Z);X -> plus(a,a);"), make([][]api.Bind, 1), api.OK)
	wantCovers(t, s, vars, members(t, "X -> a;X -> Y"), binds(t, "X -> one, Y -> one"), 1, true, api.OK)
	wantMinimise(t, s, vars, make([][]api.Bind, 101), nil, api.ErrTooMany)
	wantCovers(t, s, vars, make([][]api.Bind, 101), nil, 0, false, api.ErrTooMany)
}

// Of members that are instances of each other the first stays.
func TestAlike(t *testing.T) {
	wantLeft(t, "X Y", "X -> Y;Y -> X", 0)
	wantLeft(t, "X Y", "Y -> X;X -> Y", 0)
	wantLeft(t, "X", "X -> f(Y,Z);X -> f(_2,_1)", 0)
	wantLeft(t, "X", "X -> times(Y,Z);", 0)
	wantLeft(t, "X", ";X -> times(Y,Z)", 0)
	wantLeft(t, "X", "X -> a;X -> a;X -> a", 0)
	wantLeft(t, "X", "X -> a;X -> b;X -> a;X -> b;X -> one;X -> a", 0, 1, 4)
	wantLeft(t, "X Y", ";X -> Y, Y -> X;X -> _1;Y -> _9", 0)
	wantLeft(t, "X Y", "X -> f(Y,Y);X -> f(Z,Z), Y -> Z;X -> a;X -> f(V,V), Y -> V", 0, 2)
	// None of some is left out by one that stands behind.
	wantLeft(t, "X Y", "X -> Z, Y -> Z;X -> a;X -> Y;Y -> b;Y -> X", 0, 1, 3)
}

// A chain, each of which is an instance of the one behind or ahead.
func TestChains(t *testing.T) {
	wantLeft(t, "X Y", ";X -> f(Y,Z);X -> f(Y,a);X -> f(b,a), Y -> b", 0)
	wantLeft(t, "X", "X -> Y;X -> g(Y);X -> g(g(Y))", 0)
	wantLeft(t, "X", "X -> g(g(Y));X -> g(Y);X -> Y", 2)
	wantLeft(t, "X", "X -> g(Y);X -> g(g(Y));X -> Y", 2)
	wantLeft(t, "X", "X -> g(Y);X -> Y;X -> g(g(Y))", 1)
	wantLeft(t, "X", "X -> g(g(Y));X -> Y;X -> g(Y)", 1)
	// A member that is an instance of one that is itself left out: by one ahead, behind, by one that is alike.
	wantLeft(t, "X", "X -> g(a);X -> g(Y);X -> g(Z)", 1)
	wantLeft(t, "X", "X -> g(Y);X -> g(Z);X -> g(a)", 0)
	wantLeft(t, "X", "X -> g(Y);X -> g(a);X -> g(Z)", 0)
	wantLeft(t, "X", "X -> b;X -> g(a);X -> g(Y);X -> g(b);X -> f(Y,Z);X -> f(Y,Y);X -> f(a,a);X -> g(V)", 0, 2, 4)
	wantLeft(t, "X", "X -> f(a,a);X -> f(Y,Y);X -> f(Y,Z);X -> f(a,Y);X -> f(Y,a)", 2)
	// An instance of two that are none of each other.
	wantLeft(t, "X", "X -> f(a,Y);X -> f(a,b);X -> f(Y,b)", 0, 2)
}

// None is an instance of another one: all stay, in order.
func TestNoneIsLeftOut(t *testing.T) {
	wantLeft(t, "X", "")
	wantLeft(t, "X", "X -> a", 0)
	wantLeft(t, "X", ";", 0)
	wantLeft(t, "X", "X -> b;X -> a;X -> one;X -> zero", 0, 1, 2, 3)
	wantLeft(t, "X Y", "X -> b;Y -> b;X -> Y", 0, 1, 2)
	wantLeft(t, "X Y Z", "X -> Y;X -> Z;Y -> Z", 0, 1, 2)
	wantLeft(t, "X", "X -> g(Y);X -> f(Y,Z);X -> plus(Y,Z)", 0, 1, 2)
	wantLeft(t, "X Y", "X -> g(Y);Y -> g(X)", 0, 1)
}

// No vars: all are alike. Members that differ only at variables that are not asked for are alike, too.
func TestVarsThatAreAskedFor(t *testing.T) {
	wantLeft(t, "", "")
	wantLeft(t, "", "X -> a", 0)
	wantLeft(t, "", "X -> a;X -> b;;X -> plus(Y,Z)", 0)
	wantLeft(t, "Y", "X -> a;X -> b;;X -> plus(Y,Z)", 0)
	wantLeft(t, "Y X", "X -> a;X -> b;;X -> plus(Y,Z)", 2)
	wantLeft(t, "X", "X -> a, Y -> a;X -> a, Y -> b;X -> a, Z -> b;X -> b, Z -> a", 0, 3)
	wantLeft(t, "X Y", "X -> a, Y -> a;X -> a, Y -> b;X -> a, Z -> b;X -> b, Z -> a", 2, 3)
	wantLeft(t, "Y", "X -> a, Y -> a;X -> a, Y -> b;X -> b, Y -> a", 0, 1)
	wantLeft(t, "Z", "X -> a, Y -> a, Z -> b;Y -> b, Z -> b;Z -> b", 0)
	wantLeft(t, "_1 X", "X -> a, _1 -> b;X -> a, Y -> one, _1 -> b, _2 -> a;X -> a, _1 -> Y", 2)
	wantLeft(t, "X", "X -> Y, Y -> a;X -> a", 0)
	wantLeft(t, "X Y", "X -> Y, Y -> a;X -> a, Y -> a;X -> a, Y -> b", 0, 2)
	// What is left is whole: with the binds of all variables.
	wantLeft(t, "Z", "A -> f(X,Y), X -> a, _3 -> plus(A,b)", 0)
	wantLeft(t, "Z", "A -> f(X,Y), Z -> a, _3 -> plus(A,b);Z -> b;A -> b, Z -> V, _4 -> a", 2)
	// The order of vars counts for nothing.
	for _, vars := range []string{"A B C D", "D C B A", "C A D B"} {
		wantLeft(t, vars, "A -> a, B -> b, C -> one, D -> zero;A -> a, C -> one;B -> b, D -> zero;A -> a, B -> b, C -> one;D -> b, E -> a", 1, 2, 4)
	}
}

// Sums and units: more than one instance would do.
func TestSums(t *testing.T) {
	wantLeft(t, "X", "X -> plus(Y,Z);X -> plus(a,b);X -> plus(Y,Z,V);X -> plus(a,a);X -> a", 0, 4)
	wantLeft(t, "X", "X -> plus(a,a);X -> plus(Z,Z);X -> plus(a,one)", 1, 2)
	wantLeft(t, "X", "X -> plus(Y,a);X -> plus(Y,b);X -> plus(a,b)", 0, 1)
	wantLeft(t, "X", "X -> plus(Y,Y,a);X -> plus(Y,Z,a);X -> plus(a,a,a)", 1)
	wantLeft(t, "X", "X -> times(Y,a);X -> a;X -> b;X -> times(a,b)", 0, 2)
	wantLeft(t, "X", "X -> times(Y,Y);X -> one;X -> times(a,a,b,b);X -> times(a,b,b)", 0, 3)
	wantLeft(t, "X", "X -> times(Y,Y);X -> times(Y,Z);X -> a", 1)
	wantLeft(t, "X", "X -> sum(Y,times(Z,V));X -> both(Y,Z);X -> a", 0)
	wantLeft(t, "X Y", "X -> plus(Z,V), Y -> plus(V,U);X -> plus(a,b), Y -> plus(a,b);X -> plus(a,a), Y -> plus(b,b)", 0, 2)
	wantLeft(t, "X Y", "X -> times(Z,V), Y -> times(V,U);X -> plus(a,b), Y -> plus(a,b);X -> plus(a,a), Y -> plus(b,b)", 0)
}

// Each place of a hundred counts, the first and the last too.
func TestPlacesOfAHundred(t *testing.T) {
	for _, at := range []int{0, 64, 99} {
		l := towers(100)
		l[at] = nil
		wantMinimise(t, example(), list("X"), l, make([][]api.Bind, 1), api.OK)
		// Those that are alike: the first of them stays.
		l = towers(100)
		l[at] = binds(t, "X -> b")
		l[99-at] = binds(t, "X -> b, Y -> b")
		want := slices.Clone(l)
		want = slices.Delete(want, max(at, 99-at), max(at, 99-at)+1)
		wantMinimise(t, example(), list("X"), l, want, api.OK)
		wantCovers(t, example(), list("X"), l, binds(t, "X -> b"), min(at, 99-at), true, api.OK)
	}
	var l [][]api.Bind
	for i := range 100 {
		l = append(l, []api.Bind{bind("X", v("V"+strconv.Itoa(i)))})
	}
	wantMinimise(t, example(), list("X"), l, l[:1], api.OK)
	wantMinimise(t, example(), list("X V99"), l, l[:1], api.OK)
	// In a chain of a hundred just the last one is left.
	l = nil
	for i := range 100 {
		l = append(l, []api.Bind{bind("X", tower(101-i, v("Y")))})
	}
	wantMinimise(t, example(), list("X"), l, l[99:], api.OK)
}

// P22.1: any lists, against the chapter's words said again.
func TestP221Minimise(t *testing.T) {
	failed := 0
	for i, s := range signatures() {
		m := newMaker(int64(2200 + i))
		var all, some, single int
		for j := range 200 {
			names := varNames()[:2+j%8]
			vars, l := m.some(names), m.members(s, names, 1+m.Intn(7), 2+j%9)
			left, e := again(s, vars, l)
			wantMinimise(t, s, vars, l, left, e)
			if t.Failed() {
				return
			}
			switch {
			case e != api.OK:
				failed++
			case len(left) == len(l):
				all++
			case len(left) == 1:
				single++
			default:
				some++
			}
		}
		if all < 15 || some < 25 || single < 60 {
			t.Errorf("signature %d: of %d lists all is left, of %d some, of %d one", i, all, some, single)
		}
	}
	if failed < 5 {
		t.Errorf("%d failed", failed)
	}
}
