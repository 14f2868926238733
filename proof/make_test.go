package proof_test

import (
	"slices"
	"strconv"
	"testing"

	"amalgam/api"
	"amalgam/canon"
	"amalgam/proof"
	"amalgam/terms"
	"amalgam/unify"
)

// Sums, units, terms within terms; sides that are equal as they are written, equal modulo the axioms alone, and not.
func TestMake(t *testing.T) {
	for _, x := range []struct {
		in, with string
		want     api.Errno
	}{
		// Written alike already.
		{"a = a", "", 0},
		{"X = X", "", 0},
		{"X = X", "X -> plus(a,b)", 0},
		{"X = Y", "X -> Y", 0},
		{"f(X,a) = f(a,Y)", "X -> a, Y -> a", 0},
		{"plus(b,plus(a,X)) = plus(b,plus(a,X))", "", 0},
		{"times(one,X) = times(one,X)", "X -> one", 0},
		{"a = a", "X -> b, Z -> f(Y,Y)", 0},
		// Binds that make the sides unequal.
		{"f(X,a) = f(a,X)", "X -> Y", api.ErrProofEnd},
		{"f(X,a) = f(a,Y)", "X -> a", api.ErrProofEnd},
		{"f(X,a) = f(a,Y)", "Y -> a", api.ErrProofEnd},
		{"X = Y", "", api.ErrProofEnd},
		{"X = Y", "X -> Y, Y -> X", api.ErrProofEnd},
		{"X = f(X,a)", "X -> f(X,a)", api.ErrProofEnd},
		{"plus(X,a) = plus(b,Y)", "X -> plus(_1,b), Y -> plus(_2,a)", api.ErrProofEnd},
		{"plus(X,Y) = plus(a,b,a)", "X -> plus(a,b), Y -> b", api.ErrProofEnd},
		{"times(X,a) = a", "X -> zero", api.ErrProofEnd},
		{"times(X,a) = a", "", api.ErrProofEnd},
		{"plus(X,a) = a", "X -> one", api.ErrProofEnd},
		{"a = b", "X -> b", api.ErrProofEnd},
		// Sums.
		{"plus(X,a) = plus(b,Y)", "X -> b, Y -> a", 0},
		{"plus(X,a) = plus(b,Y)", "X -> plus(_1,b), Y -> plus(_1,a)", 0},
		{"plus(X,Y) = plus(a,b,a)", "X -> plus(a,b), Y -> a", 0},
		{"plus(X,X,X) = Y", "X -> plus(a,b,b), Y -> plus(a,a,a,b,b,b,b,b,b)", 0},
		{"Y = plus(X,X,X)", "X -> plus(a,b,b), Y -> plus(a,a,a,b,b,b,b,b,b)", 0},
		{"plus(plus(X,Y),plus(Z,plus(W,a))) = plus(a,plus(plus(W,Z),Y),X)", "X -> plus(W,Z), W -> plus(X,Y)", api.ErrSubstVar},
		{"plus(plus(X,Y),plus(Z,plus(W,a))) = plus(a,plus(plus(W,Z),Y),X)", "W -> plus(X,Y), X -> plus(W,Z)", 0},
		// Units.
		{"times(X,a) = a", "X -> one", 0},
		{"a = times(X,a)", "X -> one", 0},
		{"times(X,Y) = one", "X -> one, Y -> one", 0},
		{"times(X,both(Y,a)) = a", "X -> one, Y -> one", 0},
		{"times(X,sum(Y,a)) = a", "X -> one, Y -> zero", 0},
		{"times(X,one) = sum(zero,X,zero)", "", 0},
		{"times(one,one,one) = both(one,one)", "", 0},
		{"times(one,times(X,one)) = both(Y,one)", "Y -> X", 0},
		// Terms within terms.
		{"f(plus(X,a),g(times(X,one))) = f(plus(a,Y),g(Y))", "X -> Y", 0},
		{"g(g(plus(a,g(plus(b,a))))) = g(g(plus(g(plus(a,b)),a)))", "", 0},
		{"plus(g(plus(X,a)),f(a,b)) = plus(f(a,b),g(plus(a,b)))", "X -> b", 0},
		{"plus(times(plus(X,a),b),times(b,plus(a,X))) = plus(Y,Y)", "X -> plus(a,b), Y -> times(plus(a,a,b),b)", 0},
		{"f(X,f(X,X)) = f(plus(b,a),f(plus(a,b),plus(b,a)))", "X -> plus(a,b)", 0},
	} {
		wantMake(t, example(), equation(t, x.in), binds(t, x.with), x.want)
	}
}

// TestMakeTurnedRound: what leads from the left side to the right one is another proof than that of the sides turned round.
func TestMakeTurnedRound(t *testing.T) {
	for i, s := range signatures() {
		m := newMaker(int64(2310 + i))
		for range 300 {
			l := m.right(s, 10, 3)
			r, b := m.stirred(s, l, 6), m.binds(s, 4)
			want := makeAgain(s, eq(l, r), b)
			if want == 233 {
				t.Fatalf("%s and %s are not equal", written(l), written(r))
			}
			wantMake(t, s, eq(l, r), b, want)
			wantMake(t, s, eq(r, l), b, makeAgain(s, eq(r, l), b))
			if t.Failed() {
				return
			}
		}
	}
}

// TestMakeByTheWords: anything handed in, held against the chapter's words said again; some unify, some don't.
func TestMakeByTheWords(t *testing.T) {
	seen := map[api.Errno]int{}
	for i, s := range signatures() {
		m := newMaker(int64(2320 + i))
		for j := range 800 {
			q := m.equation(s, 8, 3)
			if j%9 == 0 {
				q = eq(m.spoilt(s, 6), m.spoilt(s, 6))
			}
			answers, _ := unify.Unify(s, q.L, q.R)
			b := m.unifying(s, answers)
			if j%10 == 0 {
				b = append(b, bind("Z", m.spoilt(s, 6)))
			}
			want := makeAgain(s, q, b)
			wantMake(t, s, q, b, want)
			seen[want]++
			if t.Failed() {
				return
			}
		}
	}
	for _, e := range []api.Errno{0, 31, 32, 33, 71, 72, 233} {
		if seen[e] < 5 {
			t.Errorf("%d times error %d", seen[e], e)
		}
	}
	if seen[0] < 300 || seen[233] < 300 {
		t.Errorf("%v", seen)
	}
}

// TestGreatSides: sums of just 400 nodes whose parts come out of order, and a tower of so many.
func TestGreatSides(t *testing.T) {
	s := example()
	for _, sym := range []int{plus, times} {
		l, r := sy(sym), sy(sym)
		var put []api.Bind
		for i := range 39 {
			name := "V" + strconv.Itoa(10+i)
			l.Args = append(l.Args, v(name))
			r.Args = slices.Insert(r.Args, 0, v(name))
			put = append(put, bind(name, sy(sym, append([]api.Term{v("W" + strconv.Itoa(90-i))}, many(8, sy(a))...)...)))
		}
		put[17].T.Args = append(put[17].T.Args, many(9, sy(b))...)
		if n := terms.Size(with(put, l)); n != 400 {
			t.Fatalf("%d nodes", n)
		}
		wantMake(t, s, eq(l, r), put, api.OK)
		wantMake(t, s, eq(r, l), put, api.OK)
		wantMake(t, s, eq(l, canon.Canon(s, r)), put, api.OK)
		wantMake(t, s, eq(l, sy(sym, r, sy(one))), put, api.ErrTermsLong)
		r.Args[5] = sy(a)
		wantMake(t, s, eq(l, r), put, api.ErrProofEnd)
	}
	tall := []api.Bind{bind("X", tower(398, sy(a)))}
	wantMake(t, s, eq(sy(times, sy(one), v("X")), v("X")), tall, api.OK)
	wantMake(t, s, eq(v("X"), sy(times, sy(one), v("X"))), tall, api.OK)
	wantMake(t, s, eq(v("X"), sy(times, sy(one), sy(one), v("X"))), tall, api.ErrSubstGrown)
	wantMake(t, s, eq(v("X"), tower(30, v("X"))), tall, api.ErrSubstGrown)
}

// TestAnotherProof: steps that Make did not find hold as well.
func TestAnotherProof(t *testing.T) {
	s, q, x := example(), equation(t, "plus(X,a) = plus(a,Y)"), binds(t, "X -> Y")
	p, e := proof.Make(s, q.L, q.R, x)
	if e != api.OK {
		t.Fatal(e)
	}
	for _, more := range [][]api.Step{{swap(0), swap(0)}, {grow(sum, 1, 0), drop(0)}, {grow(times, 1, 1), grow(times, 0, 2), drop(1), drop(1)}} {
		wantCheck(t, s, q, api.Proof{Binds: p.Binds, Steps: append(more, p.Steps...)}, api.OK, 0)
		wantCheck(t, s, q, api.Proof{Binds: p.Binds, Steps: append(p.Steps[:len(p.Steps):len(p.Steps)], more...)}, api.OK, 0)
	}
}
