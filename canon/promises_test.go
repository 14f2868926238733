package canon_test

import (
	"slices"
	"testing"

	"amalgam/api"
	"amalgam/canon"
	"amalgam/terms"
)

// P4.1
func TestCanonOfCanonical(t *testing.T) {
	for _, s := range signatures() {
		for _, x := range slices.Concat(smallTerms(s, 2, 4), manyTerms(s, 600)) {
			y := canon.Canon(s, x)
			wantTerm(t, "Canon of Canon", canon.Canon(s, y), y)
			if e := terms.Check(s, y); e != api.OK && e != api.ErrTermsLong {
				t.Errorf("Canon of %s is not right: %d", written(x), e)
			}
		}
	}
}

// pool are terms of which many are Equal to others.
func pool(s api.Signature, seed int64) []api.Term {
	m := newMaker(seed)
	l := smallTerms(s, 2, 3)
	for range 25 {
		x := m.right(s, 9)
		l = append(l, x, m.stirred(s, x, 6), m.stirred(s, x, 12))
	}
	return l
}

// P4.1
func TestEqualIsAnEquivalence(t *testing.T) {
	for _, s := range signatures() {
		l := pool(s, 41)
		for _, x := range l {
			if !canon.Equal(s, x, x) {
				t.Fatalf("%s is not Equal to itself", written(x))
			}
			for _, y := range l {
				xy := canon.Equal(s, x, y)
				if xy != canon.Equal(s, y, x) {
					t.Fatalf("Equal of %s and %s hangs on their order", written(x), written(y))
				}
				if !xy {
					continue
				}
				for _, z := range l {
					if canon.Equal(s, y, z) != canon.Equal(s, x, z) {
						t.Fatalf("%s, %s and %s", written(x), written(y), written(z))
					}
				}
			}
		}
	}
}

// P4.1
func TestEqualArgumentsMakeEqualTerms(t *testing.T) {
	for _, s := range signatures() {
		m := newMaker(43)
		for range 600 {
			sym := m.Intn(len(s))
			n := s[sym].Arity
			if s[sym].Kind != api.Free {
				n += m.Intn(3)
			}
			var l, like []api.Term
			for range n {
				x := m.right(s, 8)
				l, like = append(l, x), append(like, m.stirred(s, x, 5))
			}
			if x, y := sy(sym, l...), sy(sym, like...); !canon.Equal(s, x, y) {
				t.Fatalf("%s and %s are not Equal", written(x), written(y))
			}
		}
	}
}

// P4.2
func TestAxioms(t *testing.T) {
	for _, s := range signatures() {
		m := newMaker(47)
		l := smallTerms(s, 2, 3)
		for range 300 {
			l = append(l, m.right(s, 1+m.Intn(13)))
		}
		for range 2000 {
			x, y, z := l[m.Intn(len(l))], l[m.Intn(len(l))], l[m.Intn(len(l))]
			for sym, k := range s {
				if k.Kind == api.Free {
					continue
				}
				wantEqual(t, s, sy(sym, x, y), sy(sym, y, x))
				wantEqual(t, s, sy(sym, x, sy(sym, y, z)), sy(sym, sy(sym, x, y), z))
				wantEqual(t, s, sy(sym, x, y, z), sy(sym, x, sy(sym, y, z)))
				if k.Kind == api.ACU {
					wantEqual(t, s, sy(sym, x, sy(unitOf(s, sym))), x)
					wantEqual(t, s, sy(sym, sy(unitOf(s, sym)), x), x)
				}
			}
			if t.Failed() {
				return
			}
		}
	}
}

func wantEqual(t *testing.T, s api.Signature, x, y api.Term) {
	t.Helper()
	if !canon.Equal(s, x, y) {
		t.Errorf("%s and %s are not Equal", written(x), written(y))
	}
}

// T3: terms have one canonical form just if steps by the axioms lead from the one to the other; here all small terms are held against what the steps join.
func TestStepsJoinWhatIsEqual(t *testing.T) {
	small := api.Signature{{Name: "one", Kind: api.Free}, {Name: "plus", Kind: api.AC, Arity: 2}, {Name: "times", Kind: api.ACU, Arity: 2, Unit: "one"}}
	for i, s := range append(signatures(), small) {
		l := smallTerms(s, 1, []int{5, 4, 7, 7}[i])
		group := groups(t, s, l)
		forms := map[string]int{} // of each canonical form the group
		of := map[int]string{}    // of each group the canonical form
		for j, x := range l {
			form := written(canon.Canon(s, x))
			if k, ok := forms[form]; ok && k != group[j] {
				t.Fatalf("no steps lead from %s to its canonical form's other terms", written(x))
			}
			if text, ok := of[group[j]]; ok && text != form {
				t.Fatalf("%s has the canonical form %s; steps lead to one that has %s", written(x), form, text)
			}
			forms[form], of[group[j]] = group[j], form
		}
		if len(forms) == len(l) || len(forms) < 2 {
			t.Errorf("signature %d: %d terms, %d forms", i, len(l), len(forms))
		}
	}
}

// groups tells of each term the number of its group: those that steps join are in one.
func groups(t *testing.T, s api.Signature, l []api.Term) []int {
	at := map[string]int{}
	up := make([]int, len(l))
	for i, x := range l {
		at[written(x)], up[i] = i, i
	}
	top := func(i int) int {
		for up[i] != i {
			up[i] = up[up[i]]
			i = up[i]
		}
		return i
	}
	for i, x := range l {
		for _, y := range steps(s, x, false) {
			j, ok := at[written(y)]
			if !ok {
				t.Fatalf("%s is none of the terms", written(y))
			}
			up[top(i)] = top(j)
		}
	}
	for i := range up {
		up[i] = top(i)
	}
	return up
}

// TestStirredIsEqual: steps of all kinds, also of those that make terms longer.
func TestStirredIsEqual(t *testing.T) {
	for _, s := range signatures() {
		m := newMaker(53)
		for range 600 {
			x := m.right(s, 1+m.Intn(20))
			y := m.stirred(s, x, 1+m.Intn(20))
			wantTerm(t, "Canon of a stirred term", canon.Canon(s, y), canon.Canon(s, x))
			wantEqual(t, s, x, y)
			if t.Failed() {
				return
			}
		}
	}
}

// P4.4
func TestVariablesStay(t *testing.T) {
	for _, s := range signatures() {
		for _, x := range slices.Concat(smallTerms(s, 2, 4), manyTerms(s, 900)) {
			y := canon.Canon(s, x)
			if !slices.Equal(terms.Vars(x), terms.Vars(y)) || places(x) != places(y) {
				t.Fatalf("variables of %s: %v; of %s: %v", written(x), terms.Vars(x), written(y), terms.Vars(y))
			}
			if terms.Size(y) > terms.Size(x) {
				t.Fatalf("%s has more nodes than %s", written(y), written(x))
			}
		}
	}
}

// places is at how many places variables stand.
func places(x api.Term) int {
	n := 0
	for _, y := range terms.All(x) {
		if y.Var != "" {
			n++
		}
	}
	return n
}

// P4.5
func TestCancelling(t *testing.T) {
	for _, s := range signatures() {
		whole := pool(s, 59)
		l := slices.Concat(whole[:4], whole[len(whole)-36:])
		equal := 0
		for _, x := range slices.Concat(whole[:3], l[len(l)-5:]) {
			for _, y := range l {
				for _, z := range l {
					if wantCancelled(t, s, x, y, z) {
						equal++
					}
				}
			}
		}
		if equal < 8*2*len(l) {
			t.Errorf("only %d terms were Equal", equal)
		}
	}
}

// wantCancelled tells whether y and z are Equal.
func wantCancelled(t *testing.T, s api.Signature, x, y, z api.Term) bool {
	t.Helper()
	yz := canon.Equal(s, y, z)
	for sym, k := range s {
		if k.Kind != api.Free && canon.Equal(s, sy(sym, x, y), sy(sym, x, z)) != yz {
			t.Fatalf("%s beside %s and %s, by %d: Equal is %v, without it %v", written(x), written(y), written(z), sym, !yz, yz)
		}
	}
	return yz
}
