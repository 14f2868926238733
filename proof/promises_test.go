package proof_test

import (
	"slices"
	"testing"

	"amalgam/api"
	"amalgam/canon"
	"amalgam/derive"
	"amalgam/proof"
	"amalgam/subst"
	"amalgam/unify"
)

// P23.1 (T1): the proofs of Make and All hold; their binds are those that were handed in, or the answers of Unify, in order.
func TestP231(t *testing.T) {
	for i, s := range signatures() {
		m := newMaker(int64(2340 + i))
		all, made := 0, 0
		for j := range 400 {
			q := m.equation(s, 3+j%14, 2+j%3)
			answers, e := unify.Unify(s, q.L, q.R)
			if e != api.OK {
				continue
			}
			l, e := proof.All(s, q.L, q.R)
			if e == api.ErrSubstGrown {
				continue
			}
			if e != api.OK || len(l) != len(answers) {
				t.Fatalf("%s: %d proofs, %d; %d answers", told(q), len(l), e, len(answers))
			}
			for k, p := range l {
				wantHolds(t, s, q, p, answers[k])
			}
			all += len(l)
			for range 3 {
				b := m.unifying(s, answers)
				p, e := proof.Make(s, q.L, q.R, b)
				if e == api.OK {
					wantHolds(t, s, q, p, b)
					made++
				}
			}
			if t.Failed() {
				return
			}
		}
		if all < 200 || made < 300 {
			t.Errorf("signature %d: %d proofs of All, %d of Make", i, all, made)
		}
	}
}

// TestP231ByEveryWayOfPuttingIn: Make finds a proof just if the sides are equal modulo the axioms with what is put in, as canon says of them.
func TestP231ByEveryWayOfPuttingIn(t *testing.T) {
	s := example()
	values := []api.Term{v("X"), v("V"), sy(a), sy(one), sy(zero), sy(plus, sy(a), sy(b)), sy(times, v("V"), sy(a)), sy(g, v("X")), sy(sum, v("V"), v("X"))}
	for _, line := range []string{"plus(X,Y) = plus(Y,X)", "times(X,a) = times(a,Y)", "plus(X,Y,b) = plus(plus(b,a),b,Y)", "times(sum(X,Y),one) = sum(Y,times(X,one))", "f(X,times(Y,X)) = f(Y,times(Y,Y))", "both(X,times(Y,a)) = a"} {
		q := equation(t, line)
		equal := 0
		for _, x := range values {
			for _, y := range values {
				b := slices.DeleteFunc([]api.Bind{bind("X", x), bind("Y", y)}, func(b api.Bind) bool { return b.T.Var == b.Var })
				want := api.ErrProofEnd
				if canon.Equal(s, with(b, q.L), with(b, q.R)) {
					want = api.OK
					equal++
				}
				wantMake(t, s, q, b, want)
			}
		}
		if equal == 0 || t.Failed() {
			t.Fatalf("%s: %d were equal", line, equal)
		}
	}
}

// changed is an equation and a proof of it, changed in a step, a bind or a side.
func (m maker) changed(s api.Signature, q api.Equation, p api.Proof) (api.Equation, api.Proof) {
	p = api.Proof{Binds: slices.Clone(p.Binds), Steps: slices.Clone(p.Steps)}
	at, behind := 0, 0
	if len(p.Steps) > 0 {
		at, behind = m.Intn(len(p.Steps)), m.Intn(len(p.Steps)+1)
	}
	switch kind := m.Intn(12); {
	case kind == 0:
		q.L = m.otherSide(s, q.L)
	case kind == 1:
		q.R = m.otherSide(s, q.R)
	case kind == 2:
		p.Binds = m.otherBinds(s, p.Binds)
	case kind == 3:
		p.Binds = m.binds(s, 4)
	case kind == 4:
		p.Steps = slices.Insert(p.Steps, behind, m.step(s, q.L))
	case kind == 5:
		x := m.likely(s, with(p.Binds, q.L))
		if back, e := derive.Back(s, with(p.Binds, q.L), x); e == api.OK {
			p.Steps = slices.Insert(p.Steps, 0, x, back)
		}
	case len(p.Steps) == 0:
		p.Steps = append(p.Steps, m.likely(s, with(p.Binds, q.L)))
	case kind == 6:
		p.Steps = p.Steps[:behind]
	case kind == 7:
		p.Steps = slices.Delete(p.Steps, at, at+1)
	case kind == 8:
		p.Steps[at].At += m.Intn(3) - 1
	case kind == 9:
		p.Steps[at].Kind = api.StepKind(m.Intn(7))
	case kind == 10:
		p.Steps[at].Many, p.Steps[at].Sym = m.Intn(4), m.Intn(len(s)+1)-1
	default:
		p.Steps[at].Path = append(slices.Clone(p.Steps[at].Path), m.Intn(3))
	}
	return q, p
}

// otherSide is an equal term, one with another term put in, or any.
func (m maker) otherSide(s api.Signature, x api.Term) api.Term {
	switch m.Intn(3) {
	case 0:
		return m.stirred(s, x, 1)
	case 1:
		return with([]api.Bind{bind(varNames()[m.Intn(3)], m.right(s, 2, 3))}, x)
	}
	return m.right(s, 6, 3)
}

// otherBinds are one less, or one of them is another one.
func (m maker) otherBinds(s api.Signature, l []api.Bind) []api.Bind {
	if len(l) == 0 {
		return m.binds(s, 3)
	}
	at := m.Intn(len(l))
	if m.Intn(2) == 0 {
		return slices.Delete(l, at, at+1)
	}
	l[at].T = canon.Canon(s, m.right(s, 4, 4))
	if m.Intn(4) == 0 {
		l[at].T = m.spoilt(s, 4)
	}
	return l
}

// P23.2: where a proof holds Is says true of its binds; one that was changed in a step, a bind or a side is refused, or its binds still unify.
func TestP232(t *testing.T) {
	for i, s := range signatures() {
		m := newMaker(int64(2350 + i))
		held, seen := 0, map[api.Errno]int{}
		for j := range 400 {
			q := m.equation(s, 3+j%10, 3)
			answers, _ := unify.Unify(s, q.L, q.R)
			p, e := proof.Make(s, q.L, q.R, m.unifying(s, answers))
			if e != api.OK {
				continue
			}
			for range 20 {
				x, other := m.changed(s, q, p)
				e, at := again(s, x, other)
				wantCheck(t, s, x, other, e, at)
				seen[e]++
				if e != api.OK {
					continue
				}
				held++
				if is, e := unify.Is(s, x.L, x.R, other.Binds); !is || e != api.OK {
					t.Fatalf("%s, %s holds; Is says %v, %d", told(x), toldProof(other), is, e)
				}
			}
			if t.Failed() {
				return
			}
		}
		if held < 500 || seen[231] < 20 || seen[232] < 500 || seen[233] < 300 {
			t.Errorf("signature %d: %v", i, seen)
		}
	}
}

// TestP232OfAnySteps: whatever steps can be done lead nowhere but to what is equal, so no row of them shows what is wrong.
func TestP232OfAnySteps(t *testing.T) {
	for i, s := range signatures() {
		m := newMaker(int64(2360 + i))
		for range 300 {
			q, p := m.equation(s, 6, 3), api.Proof{Binds: m.binds(s, 4)}
			if _, e := subst.Apply(s, p.Binds, q.L); e != api.OK {
				continue
			}
			left := with(p.Binds, q.L)
			for range m.Intn(12) {
				x := m.likely(s, left)
				if next, e := derive.Do(s, left, x); e == api.OK {
					left, p.Steps = next, append(p.Steps, x)
				}
			}
			is, e := unify.Is(s, q.L, q.R, p.Binds)
			if e == api.OK && !is {
				wantCheck(t, s, q, p, api.ErrProofEnd, len(p.Steps))
			}
			// What they lead to is shown by them, where it may be a side.
			end := eq(q.L, left)
			at := 0
			want := checkAgain(s, end)
			if want == api.OK {
				want, at = again(s, end, p)
			}
			wantCheck(t, s, end, p, want, at)
			if is, e := unify.Is(s, end.L, end.R, p.Binds); want == api.OK && (!is || e != api.OK) {
				t.Fatalf("%s: Is says %v, %d", told(end), is, e)
			}
		}
	}
}
