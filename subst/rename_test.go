package subst_test

import (
	"math"
	"slices"
	"strconv"
	"strings"
	"testing"

	"amalgam/api"
	"amalgam/canon"
	"amalgam/subst"
	"amalgam/terms"
	"amalgam/text"
)

func TestRenameExamples(t *testing.T) {
	s := exampleSignature()
	for _, c := range []struct {
		in, keep string
		first    int
		want     string
		next     int
	}{
		{"X -> plus(B,C), Y -> B", "Y", 1, "X -> plus(_1,_2), Y -> _1", 3},
		{"", "", 1, "", 1},
		{"", "_1 _2", 1, "", 1},
		{"", "_5", 5, "", 5},
		{"X -> a, Y -> f(a,one)", "X", 7, "X -> a, Y -> f(a,one)", 7},
		{"X -> A", "", 0, "X -> _1", 2},
		{"X -> A", "", -1, "X -> _1", 2},
		{"X -> A", "", math.MinInt, "X -> _1", 2},
		{"X -> a", "", -7, "X -> a", 1},
		{"X -> A", "", 12, "X -> _12", 13},
		{"X -> f(A,B)", "_1", 1, "X -> f(_2,_3)", 4},
		{"X -> f(A,B)", "_2", 1, "X -> f(_1,_3)", 4},
		{"X -> f(A,B)", "_3", 1, "X -> f(_1,_2)", 3},
		{"X -> f(A,B)", "_1 _2 _3 _5", 1, "X -> f(_4,_6)", 7},
		{"X -> f(A,B)", "_01 _ 1 _1x", 1, "X -> f(_1,_2)", 3},
		{"X -> f(A,B), Y -> f(B,A)", "A", 1, "X -> f(A,_1), Y -> f(_1,A)", 2},
		{"X -> A, Y -> B", "A B", 3, "X -> A, Y -> B", 3},
		{"X -> f(A,f(B,A)), Y -> B, Z -> f(C,A)", "X Y Z", 1, "X -> f(_1,f(_2,_1)), Y -> _2, Z -> f(_3,_1)", 4},
		{"X -> f(_2,_1)", "", 1, "X -> f(_1,_2)", 3},
		{"X -> f(_2,_1)", "_1", 1, "X -> f(_2,_1)", 3},
		{"X -> f(_2,_1)", "_2", 1, "X -> f(_2,_1)", 2},
		{"X -> f(_3,_1), Y -> A", "_3", 3, "X -> f(_3,_4), Y -> _5", 6},
		{"X -> plus(A,B)", "", 9, "X -> plus(_10,_9)", 11},
		{"X -> plus(A,B), Y -> f(A,B)", "", 9, "X -> plus(_10,_9), Y -> f(_9,_10)", 11},
		{"X -> plus(A,Z)", "Z", 1, "X -> plus(Z,_1)", 2},
		{"X -> plus(a,f(A,B)), Y -> plus(B,f(B,A))", "", 1, "X -> plus(a,f(_1,_2)), Y -> plus(_2,f(_2,_1))", 3},
		{"X -> plus(f(A,a),f(B,a)), Y -> plus(f(B,A),f(C,a))", "B", 1, "X -> plus(f(B,a),f(_1,a)), Y -> plus(f(B,_1),f(_2,a))", 3},
		{"X -> f(Y,X), Y -> X", "X Y", 1, "X -> f(Y,X), Y -> X", 1},
		{"X -> f(Y,X), Y -> X", "", 1, "X -> f(_1,_2), Y -> _2", 3},
		{"X -> A", "", 99999999999, "X -> _99999999999", 100000000000},
	} {
		got, next := subst.Rename(s, bs(t, c.in), strings.Fields(c.keep), c.first)
		if text.ShowBinds(s, got) != c.want || next != c.next {
			t.Errorf("Rename of %s, keep %s, first %d: %s, %d; want %s, %d", c.in, c.keep, c.first, text.ShowBinds(s, got), next, c.want, c.next)
		}
	}
}

// TestRenameFarUp: numbers that lead to names longer than MaxName, and beyond the greatest int: each name is another one's.
func TestRenameFarUp(t *testing.T) {
	s := exampleSignature()
	b := bs(t, "X -> f(A,f(B,C)), Y -> f(A,C)")
	for _, first := range []int{100000000000, math.MaxInt - 4, math.MaxInt - 3, math.MaxInt - 2, math.MaxInt - 1, math.MaxInt} {
		name := func(n uint64) api.Term { return v("_" + strconv.FormatUint(uint64(first)+n, 10)) }
		got, next := subst.Rename(s, b, nil, first)
		wantBinds(t, "from "+strconv.Itoa(first), got, []api.Bind{bind("X", sy(f, name(0), sy(f, name(1), name(2)))), bind("Y", sy(f, name(0), name(2)))})
		if next != int(min(uint64(first)+3, math.MaxInt)) {
			t.Errorf("the number behind %d is %d", first, next)
		}
	}
}

// renamed says Rename's words again: names in a list, looked for one by one, put in at each place.
func renamed(s api.Signature, b []api.Bind, keep []string, first int) ([]api.Bind, int) {
	n := first
	if n < 1 {
		n = 1
	}
	var old, names []string
	for _, x := range b {
		for _, y := range terms.All(x.T) {
			if y.Var == "" || slices.Contains(keep, y.Var) || slices.Contains(old, y.Var) {
				continue
			}
			for slices.Contains(keep, "_"+strconv.Itoa(n)) {
				n++
			}
			old, names = append(old, y.Var), append(names, "_"+strconv.Itoa(n))
			n++
		}
	}
	var l []api.Bind
	for _, x := range b {
		y := terms.Clone(x.T)
		for path, z := range terms.All(x.T) {
			if i := slices.Index(old, z.Var); i >= 0 {
				y, _ = terms.Put(y, path, v(names[i]))
			}
		}
		l = append(l, bind(x.Var, canon.Canon(s, y)))
	}
	return l, n
}

func (m maker) names() []string {
	var l []string
	for range m.Intn(5) {
		l = append(l, append(varNames(), "_3", "_11", "A", "x", "")[m.Intn(len(varNames())+5)])
	}
	return l
}

func TestRenameOfMany(t *testing.T) {
	for _, s := range signatures() {
		m := newMaker(31)
		for range 3000 {
			b, keep, first := m.substitution(s, 12), m.names(), m.Intn(14)-2
			want, wantNext := renamed(s, b, keep, first)
			got, next := subst.Rename(s, b, keep, first)
			if writtenBinds(got) != writtenBinds(want) || next != wantNext {
				t.Fatalf("Rename of %s, keep %v, first %d: %s, %d; want %s, %d", writtenBinds(b), keep, first, writtenBinds(got), next, writtenBinds(want), wantNext)
			}
		}
	}
}
