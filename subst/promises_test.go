package subst_test

import (
	"slices"
	"testing"

	"amalgam/api"
	"amalgam/canon"
	"amalgam/subst"
	"amalgam/terms"
)

// P7.1
func TestApplyOfCompose(t *testing.T) {
	for _, s := range signatures() {
		m := newMaker(37)
		held := 0
		for range 3000 {
			a, b, x := m.substitution(s, 9), m.substitution(s, 9), m.right(s, 12)
			both, e := subst.Compose(s, a, b)
			behindA, eA := subst.Apply(s, a, x)
			want, eB := subst.Apply(s, b, behindA)
			got, eBoth := subst.Apply(s, both, x)
			if e != api.OK || eA != api.OK || eB != api.OK || eBoth != api.OK {
				continue
			}
			held++
			if written(got) != written(want) {
				t.Fatalf("of %s, %s and %s: %s; one behind the other: %s", writtenBinds(a), writtenBinds(b), written(x), written(got), written(want))
			}
		}
		if held < 2000 {
			t.Errorf("only %d were not refused", held)
		}
	}
}

// P7.1
func TestApplyToEqualTerms(t *testing.T) {
	for _, s := range signatures() {
		m := newMaker(41)
		for range 2000 {
			b, x := m.substitution(s, 6), m.right(s, 12)
			y := m.stirred(s, x, 8)
			behindX, eX := subst.Apply(s, b, x)
			behindY, eY := subst.Apply(s, b, y)
			if eX == api.OK && eY == api.OK && !canon.Equal(s, behindX, behindY) {
				t.Fatalf("of %s: %s becomes %s, %s becomes %s", writtenBinds(b), written(x), written(behindX), written(y), written(behindY))
			}
		}
	}
}

// P7.2
func TestApplyOfNothing(t *testing.T) {
	for _, s := range signatures() {
		m := newMaker(43)
		for range 1000 {
			x := m.right(s, 30)
			canonical := canon.Canon(s, x)
			wantApply(t, "no binds", s, nil, canonical, canonical)
			wantApply(t, "no binds", s, []api.Bind{}, x, canonical)
		}
	}
}

// P7.2
func TestRestrictToATermsVariables(t *testing.T) {
	for _, s := range signatures() {
		m := newMaker(47)
		for range 2000 {
			b, x := m.substitution(s, 12), m.right(s, 12)
			c := subst.Restrict(b, terms.Vars(x))
			want, e := subst.Apply(s, b, x)
			got, e2 := subst.Apply(s, c, x)
			if e != e2 || written(got) != written(want) {
				t.Fatalf("%s of %s: %s, %d; restricted: %s, %d", writtenBinds(b), written(x), written(want), e, written(got), e2)
			}
			for _, y := range c {
				if !slices.Contains(terms.Vars(x), y.Var) {
					t.Fatalf("%s is not in %s", y.Var, written(x))
				}
			}
		}
	}
}

// turning is the substitution that makes the one's variables the other's, by the places at which they stand in terms that are alike but for them; false, if there is none.
func turning(s api.Signature, b, c []api.Bind) ([]api.Bind, bool) {
	var l []api.Bind
	for i := range b {
		from, to := variables(b[i].T), variables(c[i].T)
		if len(from) != len(to) {
			return nil, false
		}
		for j, name := range from {
			at := slices.IndexFunc(l, func(x api.Bind) bool { return x.Var == name })
			switch {
			case at < 0:
				l = append(l, bind(name, v(to[j])))
			case l[at].T.Var != to[j]:
				return nil, false
			}
		}
	}
	return slices.DeleteFunc(sorted(l), func(x api.Bind) bool { return x.Var == x.T.Var }), true
}

func variables(x api.Term) []string {
	var l []string
	for _, y := range terms.All(x) {
		if y.Var != "" {
			l = append(l, y.Var)
		}
	}
	return l
}

// leadsTo: does a substitution, put behind each of b's terms, make those of c?
func leadsTo(s api.Signature, r, b, c []api.Bind) bool {
	for i := range b {
		x, e := subst.Apply(s, r, b[i].T)
		if e != api.OK || b[i].Var != c[i].Var || !canon.Equal(s, x, c[i].T) {
			return false
		}
	}
	return len(b) == len(c)
}

// P7.3, where no symbol moves its arguments, so that the places tell which variable became which one.
func TestRenameKeepsWhatIsMeant(t *testing.T) {
	s := exampleSignature()
	for i := range s {
		s[i].Unit = ""
		if s[i].Kind != api.Free {
			s[i].Kind = api.Free
		}
	}
	m := newMaker(53)
	for range 2000 {
		b, keep := m.substitution(s, 12), m.names()
		c, _ := subst.Rename(s, b, keep, m.Intn(12))
		there, ok := turning(s, b, c)
		back, ok2 := turning(s, c, b)
		if !ok || !ok2 || !leadsTo(s, there, b, c) || !leadsTo(s, back, c, b) {
			t.Fatalf("%s, keep %v: %s", writtenBinds(b), keep, writtenBinds(c))
		}
	}
}

// P7.3, of all symbols: the names are told beside the terms by one more bind, of a free symbol's term that has each variable in its first place.
func TestRenameKeepsWhatIsMeantOfSums(t *testing.T) {
	s := exampleSignature()
	m := newMaker(59)
	for range 2000 {
		b, keep := m.substitution(s, 12), m.names()
		var order []string
		for _, x := range b {
			for _, name := range variables(x.T) {
				if !slices.Contains(order, name) {
					order = append(order, name)
				}
			}
		}
		list := sy(a)
		for _, name := range slices.Backward(order) {
			list = sy(f, v(name), list)
		}
		told := append(slices.Clone(b), bind("_99", list))
		c, next := subst.Rename(s, told, keep, 1)
		last := len(told) - 1
		there, ok := turning(s, told[last:], c[last:])
		back, ok2 := turning(s, c[last:], told[last:])
		if !ok || !ok2 || !leadsTo(s, there, told, c) || !leadsTo(s, back, c, told) {
			t.Fatalf("%s, keep %v: %s", writtenBinds(told), keep, writtenBinds(c))
		}
		alone, next2 := subst.Rename(s, b, keep, 1)
		wantBinds(t, "without the list", alone, c[:last])
		if next != next2 {
			t.Fatalf("%d; without the list %d", next, next2)
		}
	}
}
