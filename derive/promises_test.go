package derive_test

import (
	"testing"

	"amalgam/api"
	"amalgam/canon"
	"amalgam/derive"
	"amalgam/terms"
)

// isRight: is a term right, however many nodes it has?
func isRight(s api.Signature, t api.Term) bool {
	for _, x := range terms.All(t) {
		alone := sy(x.Sym)
		alone.Var = x.Var
		for range x.Args {
			alone.Args = append(alone.Args, v("X"))
		}
		if terms.Check(s, alone) != api.OK {
			return false
		}
	}
	return true
}

// P8.1
func TestStepsAreSound(t *testing.T) {
	for i, s := range signatures() {
		for _, x := range append(smallTerms(s, 1, []int{5, 3, 6}[i]), manyTerms(s, 100)...) {
			form := written(canon.Canon(s, x))
			for _, p := range steps(s, x) {
				y, e := derive.Do(s, x, p)
				if e == api.OK && (!isRight(s, y) || written(canon.Canon(s, y)) != form || !canon.Equal(s, x, y)) {
					t.Fatalf("%s leads from %s to %s", writtenStep(p), written(x), written(y))
				}
			}
		}
	}
}

// P8.2
func TestThereAndBack(t *testing.T) {
	for i, s := range signatures() {
		m := newMaker(int64(i) + 19)
		many := 0
		for range 1000 {
			x := m.right(s, 1+m.Intn(15))
			y := x
			var l []api.Step
			for range m.Intn(30) {
				p := m.likely(s, y)
				back, e := derive.Back(s, y, p)
				z, e2 := derive.Do(s, y, p)
				if e != e2 {
					t.Fatalf("%s, %s: %d, %d", written(y), writtenStep(p), e, e2)
				}
				if e != api.OK {
					continue
				}
				again, e := derive.Do(s, z, back)
				if e != api.OK || written(again) != written(y) {
					t.Fatalf("%s, %s, and back, %s: %s, %d", written(y), writtenStep(p), writtenStep(back), written(again), e)
				}
				// What leads back has a step that leads back, too.
				forth, e := derive.Back(s, z, back)
				if again, _ := derive.Do(s, y, forth); e != api.OK || written(again) != written(z) {
					t.Fatalf("%s: back, %s, and forth, %s: %d", written(z), writtenStep(back), writtenStep(forth), e)
				}
				y, l = z, append([]api.Step{back}, l...)
			}
			many += len(l)
			wantPlay(t, s, y, l, x)
			if t.Failed() {
				return
			}
		}
		if many < 10000 {
			t.Errorf("signature %d: only %d steps could be done", i, many)
		}
	}
}

// shorter are the terms that one step leads to, of those steps that make no term longer.
func shorter(s api.Signature, x api.Term) []api.Term {
	var l []api.Term
	for path, n := range terms.All(x) {
		for at := range n.Args {
			for _, p := range []api.Step{flat(at, path...), swap(at, path...), drop(at, path...)} {
				if y, e := derive.Do(s, x, p); e == api.OK {
					l = append(l, y)
				}
			}
		}
	}
	return l
}

// groups tells of each term the number of its group: those that steps join are in one.
func groups(t *testing.T, s api.Signature, l []api.Term) []int {
	t.Helper()
	at := map[string]int{}
	up := make([]int, len(l))
	for i, x := range l {
		at[written(x)], up[i] = i, i
	}
	top := func(i int) int {
		for up[i] != i {
			up[i] = up[up[i]]
			i = up[i]
		}
		return i
	}
	for i, x := range l {
		for _, y := range shorter(s, x) {
			j, ok := at[written(y)]
			if !ok {
				t.Fatalf("%s is none of the terms", written(y))
			}
			up[top(i)] = top(j)
		}
	}
	for i := range up {
		up[i] = top(i)
	}
	return up
}

// P8.3, T3: all small terms are held against each other: there is a way just if steps join them, and just if their canonical forms are the same.
func TestWaysAreWhereStepsLead(t *testing.T) {
	small := api.Signature{{Name: "one", Kind: api.Free}, {Name: "plus", Kind: api.AC, Arity: 2}, {Name: "times", Kind: api.ACU, Arity: 2, Unit: "one"}}
	for i, s := range append(signatures(), small) {
		l := smallTerms(s, 1, []int{4, 3, 5, 5}[i])
		group := groups(t, s, l)
		ways := 0
		for j, x := range l {
			for k, y := range l {
				_, ok := derive.Way(s, x, y)
				if ok != (group[j] == group[k]) || ok != canon.Equal(s, x, y) {
					t.Fatalf("Way from %s to %s: %v", written(x), written(y), ok)
				}
				if ok {
					ways++
					wantWay(t, s, x, y)
				} else {
					wantNoWay(t, s, x, y)
				}
			}
		}
		if ways <= len(l) || ways == len(l)*len(l) {
			t.Errorf("signature %d: %d terms, %d ways", i, len(l), ways)
		}
	}
}
