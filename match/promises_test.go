package match_test

import (
	"slices"
	"testing"

	"amalgam/api"
	"amalgam/bag"
	"amalgam/canon"
	"amalgam/derive"
	"amalgam/match"
	"amalgam/subst"
	"amalgam/terms"
)

// P20.1 (T5): Is says true of each answer of All; each is a substitution, and steps lead from the pattern with it to the subject.
func TestP201(t *testing.T) {
	for i, s := range signatures() {
		m := newMaker(int64(950 + i))
		met := 0
		for j := range 2000 {
			x := m.problem(s, 1, 3+j%12, 1+j%5)
			l, e := match.All(s, x.p[0], x.t[0])
			if e != api.OK && (e != api.ErrTooMany || len(l) > 0) {
				t.Fatalf("%v: %s, %d", x, toldLists(l), e)
			}
			for _, b := range l {
				wantMatches(t, s, x, b)
				met++
			}
		}
		if met < 1500 {
			t.Errorf("signature %d: only %d answers", i, met)
		}
	}
}

func wantMatches(t *testing.T, s api.Signature, x problem, b []api.Bind) {
	t.Helper()
	if is, e := match.Is(s, x.p[0], x.t[0], b); !is || e != api.OK {
		t.Fatalf("%v: Is says %v, %d of %s", x, is, e, toldBinds(b))
	}
	if e, at := subst.Check(s, b); e != api.OK {
		t.Fatalf("%v: %s is no substitution: %d at %d", x, toldBinds(b), e, at)
	}
	if left := with(b, x.p[0]); terms.Size(left) <= 40 {
		steps, ok := derive.Way(s, left, x.t[0])
		if end, e, _ := derive.Play(s, left, steps); !ok || e != api.OK || written(end) != written(x.t[0]) {
			t.Fatalf("%v: no steps show %s", x, toldBinds(b))
		}
	}
}

// TestManyMatchAll: each answer of Many makes each pattern its subject.
func TestManyMatchAll(t *testing.T) {
	for i, s := range signatures() {
		m := newMaker(int64(955 + i))
		met := 0
		for range 1000 {
			x := m.problem(s, 2+m.Intn(3), 8, 4)
			l, _ := match.Many(s, x.p, x.t)
			vars, _ := x.vars()
			for _, b := range l {
				met++
				if !slices.EqualFunc(b, vars, func(y api.Bind, name string) bool { return y.Var == name }) {
					t.Fatalf("%v: %s does not bind %v", x, toldBinds(b), vars)
				}
				for j := range x.p {
					if !canon.Equal(s, with(b, x.p[j]), x.t[j]) {
						t.Fatalf("%v: %s does not match pair %d", x, toldBinds(b), j)
					}
				}
			}
		}
		if met < 200 {
			t.Errorf("signature %d: only %d answers", i, met)
		}
	}
}

// pieces are all that a variable of a pattern can become, where that is to become the subjects: what stands in them, what some arguments of a sum in them make, and units.
func pieces(s api.Signature, subjects []api.Term) []api.Term {
	all := bag.New(terms.Compare)
	for _, t := range subjects {
		for _, x := range terms.All(canon.Canon(s, t)) {
			all.Add(x, 1)
			if x.Var != "" || s[x.Sym].Kind == api.Free {
				continue
			}
			for part := range bag.Of(terms.Compare, x.Args...).Parts() {
				if y, ok := canon.Join(s, x.Sym, part.List()); ok {
					all.Add(y, 1)
				}
			}
		}
	}
	for i := range s {
		if slices.ContainsFunc(s, func(x api.Symbol) bool { return x.Unit == s[i].Name }) {
			all.Add(sy(i), 1)
		}
	}
	var l []api.Term
	for _, x := range all.Items() {
		l = append(l, x.X)
	}
	return l
}

// byPieces are all matchers, found by trying all pieces for all variables; false, if that is too much.
func byPieces(s api.Signature, x problem) ([][]api.Bind, bool) {
	vars, _ := x.vars()
	values := pieces(s, x.t)
	all := [][]api.Bind{nil}
	for _, name := range vars {
		if len(all)*len(values) > 3000 {
			return nil, false
		}
		var longer [][]api.Bind
		for _, b := range all {
			for _, y := range values {
				longer = append(longer, append(slices.Clip(b), bind(name, y)))
			}
		}
		all = longer
	}
	return slices.DeleteFunc(all, func(b []api.Bind) bool {
		for i := range x.p {
			if !canon.Equal(s, with(b, x.p[i]), x.t[i]) {
				return true
			}
		}
		return false
	}), true
}

// P20.2 (T5): each matcher is one of the list, and stands there once; the list is that of all tried terms that match, in order.
func TestP202(t *testing.T) {
	for i, s := range signatures() {
		m := newMaker(int64(960 + i))
		met, problems := 0, 0
		for j := range 1200 {
			x := m.problem(s, 1+j%2, 3+j%7, 1+j%3)
			want, ok := byPieces(s, x)
			l, e := match.Many(s, x.p, x.t)
			if !ok || e != api.OK {
				continue
			}
			if toldLists(l) != toldLists(want) {
				t.Fatalf("%v: %s; want %s", x, toldLists(l), toldLists(want))
			}
			problems++
			met += len(l)
			if len(x.p) > 1 {
				continue
			}
			for _, b := range want {
				wantIs(t, s, x.p[0], x.t[0], b, true, api.OK)
			}
		}
		if met < 300 || problems < 500 {
			t.Errorf("signature %d: %d problems, %d answers", i, problems, met)
		}
	}
}

// TestP202OfAnyBinds: of whatever Is says true, it is one of the list.
func TestP202OfAnyBinds(t *testing.T) {
	for i, s := range signatures() {
		m := newMaker(int64(965 + i))
		met := 0
		for range 3000 {
			p := m.pattern(s, 9, 4)
			values := m.values(s, 4, []string{"C", "D"})
			q := m.mixed(s, with(values, p))
			var b []api.Bind
			for _, name := range terms.Vars(p) {
				b = append(b, bind(name, canon.Canon(s, with(values, v(name)))))
			}
			is, e := match.Is(s, p, q, b)
			if !is || e != api.OK {
				t.Fatalf("%v: Is says %v, %d of %s", of(p, q), is, e, toldBinds(b))
			}
			l, e := match.All(s, p, q)
			if e != api.OK {
				continue
			}
			met++
			same := func(k []api.Bind) bool { return toldBinds(k) == toldBinds(b) }
			if at := slices.IndexFunc(l, same); at < 0 || slices.ContainsFunc(l[at+1:], same) {
				t.Fatalf("%v: %s is not there, or twice: %s", of(p, q), toldBinds(b), toldLists(l))
			}
		}
		if met < 2000 {
			t.Errorf("signature %d: only %d lists", i, met)
		}
	}
}

// P20.3: First says true just if Many's list is not empty, and tells one of it.
func TestP203(t *testing.T) {
	for i, s := range signatures() {
		m := newMaker(int64(970 + i))
		var yes, no, other int
		for j := range 3000 {
			x := m.problem(s, m.Intn(4), 3+j%9, 1+j%4)
			l, e := match.Many(s, x.p, x.t)
			if e != api.OK {
				continue
			}
			b, is, e := match.First(s, x.p, x.t)
			if e != api.OK || is != (len(l) > 0) || !is && len(b) > 0 {
				t.Fatalf("%v: %s, %v, %d beside %d answers", x, toldBinds(b), is, e, len(l))
			}
			if !is {
				no++
				continue
			}
			yes++
			at := slices.IndexFunc(l, func(k []api.Bind) bool { return toldBinds(k) == toldBinds(b) })
			if at < 0 {
				t.Fatalf("%v: %s is none of %s", x, toldBinds(b), toldLists(l))
			}
			if at > 0 {
				other++
			}
		}
		if yes < 500 || no < 300 || other < 50 {
			t.Errorf("signature %d: %d with, %d without, %d that are not the first", i, yes, no, other)
		}
	}
}

// P20.4: of terms that are equal modulo the axioms All answers the same.
func TestP204(t *testing.T) {
	for i, s := range signatures() {
		m := newMaker(int64(980 + i))
		var met, unlike int
		for j := range 1500 {
			x := m.problem(s, 1, 3+j%9, 1+j%3)
			y := of(m.mixed(s, x.p[0]), m.mixed(s, x.t[0]))
			z := of(canon.Canon(s, x.p[0]), canon.Canon(s, x.t[0]))
			l, e := match.All(s, x.p[0], x.t[0])
			if e != api.OK {
				continue
			}
			met += len(l)
			if x.String() != y.String() {
				unlike++
			}
			wantMany(t, s, y, l, api.OK)
			wantMany(t, s, z, l, api.OK)
			if t.Failed() {
				return
			}
		}
		if met < 800 || unlike < 500 {
			t.Errorf("signature %d: %d answers, %d that are written unlike", i, met, unlike)
		}
	}
}

// P20.4 of errors: a limit that the one way to write a term meets, the other one does, too, as long as both have the same units and sizes.
func TestP204OfErrors(t *testing.T) {
	for _, x := range []struct{ k, l string }{
		{"plus(X,Y) = plus(a,a,a,a,a,a,a,b)", "plus(Y,X) = plus(plus(a,a,b),a,plus(plus(a,a),a,a))"},
		{"plus(X,Y,C) = plus(a,a,C,b,D,g(a),g(b),one)", "plus(C,plus(Y,X)) = plus(plus(D,g(b)),plus(a,a),plus(C,b),plus(g(a),one))"},
		{"times(A,B,C,D,E,F,G,H,I,J,K,L,M) = a", "times(M,L,K,J,times(one,I,H),G,F,E,D,C,B,A) = times(a,one)"},
	} {
		wantError(t, example(), read(t, x.k), api.ErrTooMany)
		wantError(t, example(), read(t, x.l), api.ErrTooMany)
	}
}
