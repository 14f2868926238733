package instance_test

import (
	"slices"
	"testing"

	"amalgam/api"
	"amalgam/bag"
	"amalgam/canon"
	"amalgam/instance"
	"amalgam/subst"
	"amalgam/terms"
)

// P21.2: what Is answers with true shows it.
func TestP212(t *testing.T) {
	for i, s := range signatures() {
		m := newMaker(int64(1130 + i))
		shown := 0
		for j := range 4000 {
			x := m.question(s, varNames()[:2+j%8], 2+j%14)
			if wantShown(t, s, x) {
				shown++
			}
			if t.Failed() {
				return
			}
		}
		if shown < 1500 {
			t.Errorf("signature %d: only %d instances", i, shown)
		}
	}
}

// wantInstance: b is an instance of a, and what is answered shows it; false, if the search gives up.
func wantInstance(t *testing.T, s api.Signature, x question) bool {
	t.Helper()
	_, is, e := instance.Is(s, x.vars, x.a, x.b)
	if e == api.ErrTooMany {
		return false
	}
	if !is || e != api.OK {
		t.Errorf("%v: %v, %d", x, is, e)
	}
	wantShown(t, s, x)
	return true
}

// P21.3: each is an instance of itself, and of the one that binds nothing.
func TestP213OfItself(t *testing.T) {
	for i, s := range signatures() {
		m := newMaker(int64(1140 + i))
		met := 0
		for j := range 2000 {
			names := varNames()[:2+j%8]
			vars, l := m.some(names), m.binds(s, names, 2+j%14)
			if wantInstance(t, s, question{vars, l, l}) {
				met++
				wantAlike(t, s, question{vars, l, l}, true, api.OK)
			}
			if !wantInstance(t, s, question{vars, nil, l}) {
				t.Errorf("of none and %s: gives up", told(l))
			}
			// By b's own binds: nothing else would do.
			var want []api.Bind
			for _, name := range slices.Sorted(slices.Values(vars)) {
				want = append(want, subst.Restrict(l, []string{name})...)
			}
			wantIs(t, s, question{vars, nil, l}, want, true, api.OK)
			if t.Failed() {
				return
			}
		}
		if met < 1700 {
			t.Errorf("signature %d: only %d", i, met)
		}
	}
}

// P21.3: what Compose makes of a and any r is an instance of a, on variables that a, or r, binds or not.
func TestP213OfCompose(t *testing.T) {
	for i, s := range signatures() {
		m := newMaker(int64(1150 + i))
		met, refused := 0, 0
		for j := range 3000 {
			names := varNames()[:2+j%8]
			l, r := m.binds(s, names, 2+j%10), m.binds(s, names, 2+j%10)
			both, e := subst.Compose(s, l, r)
			if e != api.OK {
				refused++
				continue
			}
			for _, vars := range [][]string{m.some(names), names, m.some(slices.Concat(names, list("A B _4")))} {
				if wantInstance(t, s, question{vars, l, both}) {
					met++
				} else {
					refused++
				}
			}
			if t.Failed() {
				return
			}
		}
		if met < 7000 {
			t.Errorf("signature %d: only %d, %d refused", i, met, refused)
		}
	}
}

// TestLadder: an instance of an instance is one of the first.
func TestLadder(t *testing.T) {
	for i, s := range signatures() {
		m := newMaker(int64(1160 + i))
		met := 0
		for j := range 2000 {
			names := varNames()[:2+j%4]
			x, y := m.question(s, names, 2+j%6), m.question(s, names, 2+j%6)
			_, is, e := instance.Is(s, x.vars, x.a, x.b)
			_, next, no := instance.Is(s, x.vars, x.b, y.b)
			if !is || !next || e != api.OK || no != api.OK {
				continue
			}
			if wantInstance(t, s, question{x.vars, x.a, y.b}) {
				met++
			}
			if t.Failed() {
				return
			}
		}
		if met < 100 {
			t.Errorf("signature %d: only %d", i, met)
		}
	}
}

// pieces are all that a variable can become, where a term with it is to become one of the subjects: what stands in them, what some arguments of a sum in them make, and units.
func pieces(s api.Signature, subjects []api.Term) []api.Term {
	all := bag.New(terms.Compare)
	for _, t := range subjects {
		for _, x := range terms.All(canon.Canon(s, t)) {
			all.Add(x, 1)
			if x.Var != "" || s[x.Sym].Kind == api.Free {
				continue
			}
			for part := range bag.Of(terms.Compare, x.Args...).Parts() {
				if y, ok := canon.Join(s, x.Sym, part.List()); ok {
					all.Add(y, 1)
				}
			}
		}
	}
	for i := range s {
		if slices.ContainsFunc(s, func(x api.Symbol) bool { return x.Unit == s[i].Name }) {
			all.Add(sy(i), 1)
		}
	}
	var l []api.Term
	for _, x := range all.Items() {
		l = append(l, x.X)
	}
	return l
}

// byPieces are all substitutions that show b to be an instance of a, found by trying all pieces for all variables; false, if that is too much.
func byPieces(s api.Signature, x question) ([][]api.Bind, bool) {
	patterns, subjects := withAll(x.a, x.variables()), withAll(x.b, x.variables())
	values := pieces(s, subjects)
	all := [][]api.Bind{nil}
	for _, name := range terms.Vars(sy(f, patterns...)) {
		if len(all)*len(values) > 3000 {
			return nil, false
		}
		var longer [][]api.Bind
		for _, l := range all {
			for _, y := range values {
				longer = append(longer, append(slices.Clip(l), bind(name, y)))
			}
		}
		all = longer
	}
	return slices.DeleteFunc(all, func(l []api.Bind) bool {
		for i := range patterns {
			if !canon.Equal(s, with(l, patterns[i]), subjects[i]) {
				return true
			}
		}
		return false
	}), true
}

// P21.1, by the words of the document's section Words: Is says true just if there is a substitution that makes b of a, and tells one of these.
func TestP211ByPieces(t *testing.T) {
	for i, s := range signatures() {
		m := newMaker(int64(1170 + i))
		var yes, no, several int
		for j := range 2500 {
			x := m.question(s, varNames()[:2+j%5], 2+j%7)
			want, ok := byPieces(s, x)
			r, is, e := instance.Is(s, x.vars, x.a, x.b)
			if !ok || e != api.OK {
				continue
			}
			if is != (len(want) > 0) {
				t.Fatalf("%v: %v, %d; pieces show it in %d ways", x, is, e, len(want))
			}
			if !is {
				no++
				continue
			}
			if !slices.ContainsFunc(want, func(l []api.Bind) bool { return told(others(l)) == told(r) }) {
				t.Fatalf("%v: %s is none of %d", x, told(r), len(want))
			}
			yes++
			if len(want) > 1 {
				several++
			}
		}
		if yes < 400 || no < 200 || several < 10 {
			t.Errorf("signature %d: %d instances, %d that are none, %d in several ways", i, yes, no, several)
		}
	}
}

// others are the binds of a variable to something else than itself.
func others(l []api.Bind) []api.Bind {
	return slices.DeleteFunc(slices.Clone(l), func(x api.Bind) bool { return x.T.Var == x.Var })
}

// TestOrderOfVars: whether it is an instance does not hang on the order of vars, where no search gives up.
func TestOrderOfVars(t *testing.T) {
	for i, s := range signatures() {
		m := newMaker(int64(1180 + i))
		met := 0
		for j := range 1500 {
			x := m.question(s, varNames()[:2+j%5], 2+j%7)
			_, is, e := instance.Is(s, x.vars, x.a, x.b)
			y := question{slices.Clone(x.vars), x.a, x.b}
			slices.Reverse(y.vars)
			_, other, no := instance.Is(s, y.vars, y.a, y.b)
			if e == api.OK && no == api.OK {
				met++
				if is != other {
					t.Fatalf("%v: %v; the other way round %v", x, is, other)
				}
			}
		}
		if met < 1000 {
			t.Errorf("signature %d: only %d", i, met)
		}
	}
}
