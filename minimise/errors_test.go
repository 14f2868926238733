package minimise_test

import (
	"slices"
	"strconv"
	"testing"

	"amalgam/api"
)

type wrongSignature struct {
	s    api.Signature
	want api.Errno
}

// wrongSignatures have each error of sig's Check.
func wrongSignatures() []wrongSignature {
	set := func(at int, x api.Symbol) api.Signature {
		s := example()
		s[at] = x
		return s
	}
	return []wrongSignature{
		{set(2, api.Symbol{Name: "F", Kind: api.Free, Arity: 2}), api.ErrSigName},
		{set(5, api.Symbol{Name: "a", Kind: api.Free}), api.ErrSigName},
		{set(0, api.Symbol{Name: "a", Kind: 4}), api.ErrSigKind},
		{set(2, api.Symbol{Name: "f", Kind: api.Free, Arity: 5}), api.ErrSigArity},
		{set(4, api.Symbol{Name: "times", Kind: api.ACU, Arity: 2, Unit: "two"}), api.ErrSigUnit},
		{append(example(), make(api.Signature, 7)...), api.ErrSigMany},
		{api.Signature{{}}, api.ErrSigName},
	}
}

// names80 are eighty names, no two alike.
func names80() []string {
	var l []string
	for i := range 80 {
		l = append(l, "V"+strconv.Itoa(i))
	}
	return l
}

// wrongVars are more than there may be, names that are none, names that stand twice.
func wrongVars() [][]string {
	l := [][]string{
		append(names80(), "X"), slices.Repeat([]string{"x"}, 1000000),
		{"X", "X"}, {"X", "Y", "X"}, {"_1", "X", "Y", "Z", "_1"}, append(names80()[:79], "V0"),
	}
	for _, name := range []string{"", "x", "one", "_", "_0", "_01", "X_", "Xä", " X", "1", "Abcdefghijklm", "f(X)"} {
		l = append(l, []string{name}, []string{"X", "Y", name}, []string{name, "X", "X"}, append(names80()[:79], name))
	}
	return l
}

type wrongMember struct {
	b    []api.Bind
	want api.Errno
}

// wrongMembers have each error of subst's Check, at the first place and behind others; of variables that are asked for, and of others.
func wrongMembers() []wrongMember {
	return []wrongMember{
		{[]api.Bind{bind("x", sy(a))}, api.ErrSubstVar},
		{[]api.Bind{bind("", sy(a))}, api.ErrSubstVar},
		{[]api.Bind{bind("X", v("X"))}, api.ErrSubstVar},
		{[]api.Bind{bind("W", v("W"))}, api.ErrSubstVar},
		{[]api.Bind{bind("Y", sy(a)), bind("X", sy(a))}, api.ErrSubstVar},
		{[]api.Bind{bind("X", sy(a)), bind("X", sy(a))}, api.ErrSubstVar},
		{[]api.Bind{bind("X", sy(a)), bind("_9", sy(a)), bind("_10", sy(a))}, api.ErrSubstVar},
		{[]api.Bind{bind("X", tower(401, sy(a)))}, api.ErrSubstGrown},
		{[]api.Bind{bind("X", sy(a)), bind("Y", sy(plus, slices.Repeat([]api.Term{sy(a)}, 400)...))}, api.ErrSubstGrown},
		{[]api.Bind{bind("W", tower(401, sy(a)))}, api.ErrSubstGrown},
		{[]api.Bind{bind("X", sy(plus, sy(b), sy(a)))}, api.ErrSubstTerm},
		{[]api.Bind{bind("W", sy(times, sy(one), sy(a)))}, api.ErrSubstTerm},
		{[]api.Bind{bind("X", sy(a)), bind("Y", sy(99))}, api.ErrSubstTerm},
		{[]api.Bind{bind("X", sy(f, sy(a)))}, api.ErrSubstTerm},
		{[]api.Bind{bind("X", v("x"))}, api.ErrSubstTerm},
	}
}

// listsWithWrong are lists of which some member may not be, or that are too long.
func listsWithWrong() [][][]api.Bind {
	l := [][][]api.Bind{make([][]api.Bind, 101), make([][]api.Bind, 1000000)}
	for _, w := range wrongMembers() {
		l = append(l, [][]api.Bind{w.b}, append(towers(100), w.b))
	}
	return l
}

// Sig's Check's error comes ahead of all others.
func TestErrorsOfSignatures(t *testing.T) {
	for _, w := range wrongSignatures() {
		wantError(t, w.s, nil, nil, w.want)
		wantError(t, w.s, list("X Y"), towers(3), w.want)
		for _, vars := range wrongVars() {
			wantError(t, w.s, vars, nil, w.want)
			wantError(t, w.s, vars, make([][]api.Bind, 101), w.want)
		}
		for _, l := range listsWithWrong() {
			wantError(t, w.s, list("X Y"), l, w.want)
			wantError(t, w.s, list("X X"), l, w.want)
		}
	}
	wantError(t, make(api.Signature, 1000000), nil, nil, api.ErrSigMany)
}

// ErrInstanceVar comes ahead of all of the list's.
func TestErrorsOfVars(t *testing.T) {
	for _, vars := range wrongVars() {
		for _, s := range append(signatures(), nil) {
			wantError(t, s, vars, nil, api.ErrInstanceVar)
			wantError(t, s, vars, make([][]api.Bind, 3), api.ErrInstanceVar)
		}
		for _, l := range listsWithWrong() {
			wantError(t, example(), vars, l, api.ErrInstanceVar)
		}
	}
}

// Eighty variables are not too many, whatever their names are.
func TestHowManyVars(t *testing.T) {
	numbered := func(from int) []string {
		var l []string
		for i := range 80 {
			l = append(l, "_"+strconv.Itoa(from+i))
		}
		return l
	}
	for _, s := range append(signatures(), nil) {
		for _, vars := range [][]string{names80(), numbered(1), numbered(2), numbered(41), numbered(80), numbered(1000)} {
			wantMinimise(t, s, vars, nil, nil, api.OK)
			wantCovers(t, s, vars, nil, nil, 0, false, api.OK)
			wantMinimise(t, s, vars, make([][]api.Bind, 3), make([][]api.Bind, 1), api.OK)
			wantCovers(t, s, vars, make([][]api.Bind, 3), nil, 0, true, api.OK)
			last := []api.Bind{bind(vars[79], v("X"))}
			wantMinimise(t, s, vars[1:], [][]api.Bind{last, nil}, [][]api.Bind{last}, api.OK)
			last = []api.Bind{bind(vars[79], v(vars[0]))}
			wantMinimise(t, s, vars[:79], [][]api.Bind{last, nil}, [][]api.Bind{last}, api.OK)
			wantMinimise(t, s, vars, [][]api.Bind{last, nil}, [][]api.Bind{nil}, api.OK)
			wantCovers(t, s, vars, [][]api.Bind{last}, nil, 0, false, api.OK)
			slices.Reverse(vars)
			wantMinimise(t, s, vars[1:], [][]api.Bind{last, nil}, [][]api.Bind{last}, api.OK)
			wantMinimise(t, s, vars, [][]api.Bind{last, nil}, [][]api.Bind{nil}, api.OK)
		}
	}
}

// A hundred members may be; of more the error is told ahead of that of a member.
func TestHowManyMembers(t *testing.T) {
	s, vars := example(), list("X Y")
	for _, n := range []int{0, 1, 2, 99, 100} {
		wantMinimise(t, s, vars, towers(n), towers(n), api.OK)
		wantCovers(t, s, vars, towers(n), binds(t, "X -> one"), 0, false, api.OK)
		wantMinimise(t, s, vars, make([][]api.Bind, n), make([][]api.Bind, min(n, 1)), api.OK)
	}
	for _, n := range []int{101, 102, 128, 200, 4096} {
		wantError(t, s, vars, make([][]api.Bind, n), api.ErrTooMany)
		wantError(t, s, nil, make([][]api.Bind, n), api.ErrTooMany)
	}
	wantError(t, s, vars, towers(101), api.ErrTooMany)
	for _, w := range wrongMembers() {
		for _, at := range []int{0, 50, 99, 100} {
			wantError(t, s, vars, slices.Insert(make([][]api.Bind, 100), at, w.b), api.ErrTooMany)
			wantError(t, s, vars, slices.Insert(towers(100), at, w.b), api.ErrTooMany)
		}
	}
}

// The error of the first member that has one, first, last, more than one; whether vars have its variable or not.
func TestErrorsOfMembers(t *testing.T) {
	s := example()
	for _, vars := range [][]string{nil, {"X"}, {"Y", "Xx", "_1"}, names80()} {
		for _, w := range wrongMembers() {
			wantError(t, s, vars, [][]api.Bind{w.b}, w.want)
			for at := range 4 {
				wantError(t, s, vars, slices.Insert(make([][]api.Bind, 3), at, w.b), w.want)
				wantError(t, s, vars, slices.Insert(towers(3), at, w.b), w.want)
			}
			wantError(t, s, vars, append(towers(99), w.b), w.want)
			for _, y := range wrongMembers() {
				wantError(t, s, vars, [][]api.Bind{w.b, y.b}, w.want)
				wantError(t, s, vars, [][]api.Bind{nil, w.b, nil, y.b}, w.want)
			}
		}
	}
}

// many has too many variables beneath a sum with a unit, so that no search for it begins; as an instance it is as good as all.
const many = "X -> times(A,B,C,D,E,F,G,H,I,J,K,L,M)"

// A member's error comes ahead of that of a search.
func TestErrorOfTheSearchComesLast(t *testing.T) {
	s, vars := example(), list("X Y")
	for _, w := range wrongMembers() {
		l := append(members(t, many+";X -> a"), w.b)
		wantError(t, s, vars, l, w.want)
		slices.Reverse(l)
		wantError(t, s, vars, l, w.want)
	}
	wantError(t, s, list("X X"), members(t, many+";X -> a"), api.ErrInstanceVar)
}

// The search of any two members may give up, either way: whatever is known of them, and of others.
func TestErrorOfAnySearch(t *testing.T) {
	s := example()
	for _, lines := range []string{
		many + ";X -> a",
		many + ";" + many,
		many + ";",
		"X -> plus(A,B);X -> plus(a,a,a,a,a,a,a)", // more of one kind than may be
		"X -> plus(A,B,C,D,E,F);X -> plus(a,b,C,D,E,F)",
		"X -> plus(A,B);X -> plus(A,B,C,D,E,F)",
		// Of others it is known which are left out: many would be itself.
		";" + many + ";X -> a",
		"X -> V;X -> a;" + many,
		"X -> a;X -> a;X -> b;X -> b;" + many,
	} {
		l := members(t, lines)
		wantMinimise(t, s, list("X Y"), l, nil, api.ErrTooMany)
		slices.Reverse(l)
		wantMinimise(t, s, list("X Y"), l, nil, api.ErrTooMany)
		for range l {
			l = append(l[1:], l[0])
			wantMinimise(t, s, list("X Y"), l, nil, api.ErrTooMany)
		}
		// Of other variables there is nothing to search for.
		wantMinimise(t, s, list("Z W"), l, l[:1], api.OK)
	}
	// Among a hundred: the first and the last one.
	l := towers(100)
	l[0], l[99] = binds(t, "X -> plus(A,B)"), binds(t, "X -> plus(a,a,a,a,a,a,a)")
	wantMinimise(t, s, list("X"), l, nil, api.ErrTooMany)
	l[0], l[99] = l[99], l[0]
	wantMinimise(t, s, list("X"), l, nil, api.ErrTooMany)
	// A member is not held against itself.
	wantMinimise(t, s, list("X Y"), members(t, many), members(t, many), api.OK)
	wantMinimise(t, s, list("X Y"), members(t, "X -> plus(A,B,C,D,E,F)"), members(t, "X -> plus(A,B,C,D,E,F)"), api.OK)
}

// b's own errors come behind those of the list, and ahead of the search's.
func TestErrorsOfCovered(t *testing.T) {
	s := example()
	for _, vars := range [][]string{nil, {"X"}, {"Y", "Xx", "_1"}, names80()} {
		for _, w := range wrongMembers() {
			wantCovers(t, s, vars, nil, w.b, 0, false, w.want)
			wantCovers(t, s, vars, make([][]api.Bind, 3), w.b, 0, false, w.want)
			wantCovers(t, s, vars, towers(100), w.b, 0, false, w.want)
			wantCovers(t, s, vars, members(t, many), w.b, 0, false, w.want)
			wantCovers(t, s, vars, make([][]api.Bind, 101), w.b, 0, false, api.ErrTooMany)
			for _, y := range wrongMembers() {
				wantCovers(t, s, vars, [][]api.Bind{y.b}, w.b, 0, false, y.want)
				wantCovers(t, s, vars, [][]api.Bind{nil, y.b}, w.b, 0, false, y.want)
			}
			wantCovers(t, s, append(vars, "Xä"), nil, w.b, 0, false, api.ErrInstanceVar)
		}
	}
	for _, w := range wrongSignatures() {
		wantCovers(t, w.s, list("X X"), make([][]api.Bind, 101), wrongMembers()[0].b, 0, false, w.want)
	}
}

// The error of a search at a member ahead of the one that covers, and behind it.
func TestErrorOfTheSearchOfCovers(t *testing.T) {
	s, vars := example(), list("X Y")
	covered := binds(t, "X -> a")
	wantCovers(t, s, vars, members(t, many), covered, 0, false, api.ErrTooMany)
	wantCovers(t, s, vars, members(t, many+";"), covered, 0, false, api.ErrTooMany)
	wantCovers(t, s, vars, members(t, ";"+many), covered, 0, true, api.OK)
	wantCovers(t, s, vars, members(t, "X -> b;"+many+";X -> a"), covered, 0, false, api.ErrTooMany)
	wantCovers(t, s, vars, members(t, "X -> b;X -> a;"+many), covered, 1, true, api.OK)
	wantCovers(t, s, vars, members(t, "X -> b;X -> one;"+many), covered, 0, false, api.ErrTooMany)
	// Members are not held against one another, nor the other way.
	wantCovers(t, s, vars, members(t, "X -> plus(a,a,a,a,a,a,a);X -> plus(A,B);X -> plus(A,A)"), binds(t, "X -> plus(b,b)"), 1, true, api.OK)
	wantCovers(t, s, vars, members(t, "X -> a;X -> b;"), binds(t, many), 2, true, api.OK)
	wantCovers(t, s, vars, members(t, "X -> a;X -> b"), binds(t, many), 0, false, api.OK)
	wantCovers(t, s, vars, members(t, "X -> a;X -> b;"+many), binds(t, many), 0, false, api.ErrTooMany)
	// Of other variables there is nothing to search for.
	wantCovers(t, s, list("Z W"), members(t, many), covered, 0, true, api.OK)
}
