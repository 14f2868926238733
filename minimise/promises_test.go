package minimise_test

import (
	"slices"
	"testing"

	"amalgam/api"
	"amalgam/canon"
	"amalgam/instance"
	"amalgam/minimise"
	"amalgam/subst"
	"amalgam/terms"
	"amalgam/text"
	"amalgam/unify"
)

// wantMinimal holds P22.2 and P22.3 of a list of which Minimise answers something; how many are left.
func wantMinimal(t *testing.T, s api.Signature, vars []string, l [][]api.Bind) int {
	t.Helper()
	left, e := minimise.Minimise(s, vars, l)
	if e != api.OK {
		t.Errorf("of %s: %d", short(toldAll(l)), e)
		return 0
	}
	// None is an instance of another one.
	for i, x := range left {
		for j, y := range left {
			if _, is, e := instance.Is(s, vars, x, y); i != j && (is || e != api.OK) {
				t.Errorf("of %s, vars %v: %s is left beside %s: %v, %d", short(toldAll(l)), vars, told(y), told(x), is, e)
			}
		}
	}
	wantEachCovered(t, s, vars, l, left)
	wantMinimise(t, s, vars, left, left, api.OK)
	turned := slices.Clone(l)
	slices.Reverse(turned)
	other, e := minimise.Minimise(s, vars, turned)
	if len(other) != len(left) || e != api.OK {
		t.Errorf("of %s, vars %v: %s; turned round %s, %d", short(toldAll(l)), vars, short(toldAll(left)), short(toldAll(other)), e)
	}
	return len(left)
}

// wantEachCovered: each member of l is an instance of one that is left, and what is left stands in l, in order.
func wantEachCovered(t *testing.T, s api.Signature, vars []string, l, left [][]api.Bind) {
	t.Helper()
	for _, x := range l {
		shown := false
		for _, y := range left {
			// One and the same need not be searched for, and may be too much for a search.
			_, is, e := instance.Is(s, vars, y, x)
			shown = shown || told(x) == told(y) || is && e == api.OK
		}
		if !shown {
			t.Errorf("of %s, vars %v: %s is an instance of none of %s", short(toldAll(l)), vars, told(x), short(toldAll(left)))
		}
	}
	rest := l
	for _, y := range left {
		at := slices.IndexFunc(rest, func(x []api.Bind) bool { return told(x) == told(y) })
		if at < 0 {
			t.Fatalf("of %s, vars %v: %s", short(toldAll(l)), vars, short(toldAll(left)))
		}
		rest = rest[at+1:]
	}
}

// P22.2 (T6) and P22.3, of any lists.
func TestP222And223(t *testing.T) {
	for i, s := range signatures() {
		m := newMaker(int64(2220 + i))
		met, left, lost := 0, 0, 0
		for j := range 130 {
			names := varNames()[:2+j%8]
			vars, l := m.some(names), m.members(s, names, m.Intn(9), 2+j%9)
			if _, e := minimise.Minimise(s, vars, l); e != api.OK {
				continue
			}
			n := wantMinimal(t, s, vars, l)
			met, left, lost = met+1, left+n, lost+len(l)-n
			if t.Failed() {
				return
			}
		}
		if met < 80 || left < 100 || lost < 150 {
			t.Errorf("signature %d: %d lists, %d left, %d left out", i, met, left, lost)
		}
	}
}

// The members of a list with each other one put in behind: what is left of all is what is left of the list.
func TestInstancesAddNothing(t *testing.T) {
	for i, s := range signatures() {
		m := newMaker(int64(2230 + i))
		met := 0
		for j := range 50 {
			names := varNames()[:2+j%5]
			l := m.members(s, names, 1+m.Intn(4), 2+j%5)
			all := slices.Clone(l)
			for _, x := range l {
				if y, e := subst.Compose(s, x, m.binds(s, names, 3)); e == api.OK {
					all = append(all, y)
				}
			}
			want, e := minimise.Minimise(s, names, l)
			if _, no := minimise.Minimise(s, names, all); e != api.OK || no != api.OK {
				continue
			}
			met++
			wantMinimise(t, s, names, all, want, api.OK)
		}
		if met < 30 {
			t.Errorf("signature %d: only %d", i, met)
		}
	}
}

// What Unify answers, made less: each unifier that it finds is an instance of one that is left, and each that is left unifies.
func TestOfUnifiers(t *testing.T) {
	s := example()
	for _, x := range []struct {
		equation string
		left     int
	}{
		{"f(X,a) = f(a,Y)", 1},
		{"plus(X,a) = plus(Y,a)", 1},
		{"plus(X,Y) = plus(Z,W)", 7},
		{"plus(X,a) = plus(Y,one)", 2},
		{"plus(X,a) = a", 0},
		{"times(X,a) = a", 1},
		{"f(X,X) = f(plus(Y,a),plus(a,one))", 1},
		{"times(X,Y) = times(Y,X)", 1},
		{"times(X,Y) = times(Z,W)", 1},
		{"times(X,a) = times(Y,Y)", 1},
		{"times(X,a) = times(Y,b)", 1},
		{"f(times(X,Y),X) = f(Z,g(Z))", 0},
		{"sum(X,times(Y,a)) = sum(Z,a)", 2},
	} {
		q, e, at := text.Equation(s, x.equation)
		if e != api.OK {
			t.Fatalf("%s: %d at %d", x.equation, e, at)
		}
		l, e := unify.Unify(s, q.L, q.R)
		if e != api.OK {
			t.Fatalf("%s: %d", x.equation, e)
		}
		vars := terms.Vars(sy(f, q.L, q.R))
		if n := wantMinimal(t, s, vars, l); n != x.left {
			t.Errorf("%s: %d of %d are left; want %d", x.equation, n, len(l), x.left)
		}
		left, _ := minimise.Minimise(s, vars, l)
		for _, b := range left {
			if is, e := unify.Is(s, q.L, q.R, b); !is || e != api.OK {
				t.Errorf("%s: %s does not unify: %d", x.equation, told(b), e)
			}
		}
		for _, b := range l {
			if _, is, e := minimise.Covers(s, vars, left, b); !is || e != api.OK {
				t.Errorf("%s: %s is not covered: %d", x.equation, told(b), e)
			}
		}
	}
}

// The document's tenth example: of Unify's answers Minimise leaves the one that binds nothing.
func TestTenthExample(t *testing.T) {
	s := example()[:5]
	l, e := unify.Unify(s, sy(times, v("X"), v("Y")), sy(times, v("Y"), v("X")))
	if e != api.OK || len(l) < 2 || len(l[0]) > 0 {
		t.Fatalf("%s, %d", toldAll(l), e)
	}
	wantMinimise(t, s, list("X Y"), l, [][]api.Bind{nil}, api.OK)
}

// Covers says of each member of a list what it is an instance of, and Minimise leaves out just those that an earlier one covers, or a later one that they don't cover.
func TestCoversAndMinimise(t *testing.T) {
	for i, s := range signatures() {
		m := newMaker(int64(2240 + i))
		met := 0
		for j := range 200 {
			names := varNames()[:2+j%8]
			vars, l := m.some(names), m.members(s, names, 2+m.Intn(5), 2+j%7)
			left, e := minimise.Minimise(s, vars, l)
			if e != api.OK {
				continue
			}
			var want [][]api.Bind
			for k, x := range l {
				_, ahead, _ := minimise.Covers(s, vars, l[:k], x)
				behind := slices.ContainsFunc(l[k+1:], func(y []api.Bind) bool {
					_, is, _ := minimise.Covers(s, vars, [][]api.Bind{y}, x)
					_, back, _ := minimise.Covers(s, vars, [][]api.Bind{x}, y)
					return is && !back
				})
				if !ahead && !behind {
					want = append(want, x)
				}
			}
			met++
			if toldAll(left) != toldAll(want) {
				t.Fatalf("of %s, vars %v: %s; want %s", toldAll(l), vars, toldAll(left), toldAll(want))
			}
		}
		if met < 120 {
			t.Errorf("signature %d: only %d", i, met)
		}
	}
}

// Members are held against one another modulo the axioms: what is left of ground ones is one of each canonical form.
func TestGroundMembers(t *testing.T) {
	for i, s := range signatures() {
		m := newMaker(int64(2250 + i))
		for range 25 {
			var l, want [][]api.Bind
			for range 30 {
				x := canon.Canon(s, m.right(s, 1+m.Intn(4)))
				b := []api.Bind{bind("X", x)}
				l = append(l, b)
				if !slices.ContainsFunc(want, func(y []api.Bind) bool { return canon.Equal(s, y[0].T, x) }) {
					want = append(want, b)
				}
			}
			wantMinimise(t, s, list("X"), l, want, api.OK)
			if t.Failed() {
				return
			}
		}
	}
}
