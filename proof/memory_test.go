package proof_test

import (
	"slices"
	"strconv"
	"strings"
	"sync"
	"testing"

	"amalgam/api"
	"amalgam/proof"
	"amalgam/unify"
)

// roomy is a term of which each list has spare room, with something in it.
func roomy(t api.Term) api.Term {
	l := make([]api.Term, 0, len(t.Args)+2)
	for _, x := range t.Args {
		l = append(l, roomy(x))
	}
	copy(l[len(l):cap(l)], []api.Term{v("Spare"), sy(plus, v("Spare"), sy(a))})
	t.Args = l
	return t
}

func roomyBinds(in []api.Bind) []api.Bind {
	l := make([]api.Bind, 0, len(in)+2)
	for _, x := range in {
		l = append(l, bind(x.Var, roomy(x.T)))
	}
	copy(l[len(l):cap(l)], []api.Bind{bind("Z", sy(a)), bind("Spare", sy(plus, v("Spare"), sy(a)))})
	return l
}

func roomySteps(in []api.Step) []api.Step {
	l := make([]api.Step, 0, len(in)+2)
	for _, x := range in {
		path := append(make([]int, 0, len(x.Path)+3), x.Path...)
		copy(path[len(path):cap(path)], []int{0, 1, 77})
		x.Path = path
		l = append(l, x)
	}
	copy(l[len(l):cap(l)], []api.Step{swap(0, 0, 1), drop(0, 1)})
	return l
}

// given is all that the calls are handed.
type given struct {
	s    api.Signature
	l, r api.Term
	p    api.Proof
}

// roomyGiven has spare room in each list.
func roomyGiven(s api.Signature, q api.Equation, p api.Proof) given {
	room := append(make(api.Signature, 0, len(s)+3), s...)
	copy(room[len(room):cap(room)], example()[3:])
	return given{room, roomy(q.L), roomy(q.R), api.Proof{Binds: roomyBinds(p.Binds), Steps: roomySteps(p.Steps)}}
}

func writeWhole(b *strings.Builder, t api.Term) {
	b.WriteString(t.Var + "'" + strconv.Itoa(t.Sym) + "<")
	for _, x := range t.Args[:cap(t.Args)] {
		writeWhole(b, x)
	}
	b.WriteString(">" + strconv.Itoa(len(t.Args)))
}

// whole tells all that is handed in, spare room too.
func (x given) whole() string {
	var b strings.Builder
	for _, y := range x.s[:cap(x.s)] {
		b.WriteString(y.Name + " " + strconv.Itoa(int(y.Kind)) + " " + strconv.Itoa(y.Arity) + " " + y.Unit + "; ")
	}
	writeWhole(&b, x.l)
	writeWhole(&b, x.r)
	for _, y := range x.p.Binds[:cap(x.p.Binds)] {
		b.WriteString(y.Var + " -> ")
		writeWhole(&b, y.T)
	}
	for _, y := range x.p.Steps[:cap(x.p.Steps)] {
		y.Path = y.Path[:cap(y.Path)]
		b.WriteString(toldSteps([]api.Step{y}))
	}
	return b.String() + strconv.Itoa(len(x.p.Binds)) + " " + strconv.Itoa(len(x.p.Steps))
}

// spoil writes on all memory of a list of terms, its spare room too.
func spoil(l []api.Term) {
	l = l[:cap(l)]
	for i, x := range l {
		spoil(x.Args)
		l[i] = api.Term{Var: "Spoilt", Sym: 66, Args: []api.Term{v("Spoilt")}}
	}
}

func spoilProof(p api.Proof) {
	binds, steps := p.Binds[:cap(p.Binds)], p.Steps[:cap(p.Steps)]
	for i, x := range binds {
		spoil(x.T.Args)
		binds[i] = bind("Spoilt", sy(66, v("Spoilt")))
	}
	for i, x := range steps {
		path := x.Path[:cap(x.Path)]
		for j := range path {
			path[j] = 66
		}
		steps[i] = api.Step{Kind: 66, Path: []int{66}, At: 66, Many: 66, Sym: 66}
	}
}

func spoilAll(l []api.Proof) {
	l = l[:cap(l)]
	for i, p := range l {
		spoilProof(p)
		l[i] = api.Proof{Binds: []api.Bind{bind("Spoilt", v("Spoilt"))}, Steps: []api.Step{{Kind: 66}}}
	}
}

// cells are the addresses of all memory of a list of terms.
func cells(l []api.Term) []any {
	var all []any
	room := l[:cap(l)]
	for i := range room {
		all = append(all, &room[i])
		all = append(all, cells(room[i].Args)...)
	}
	return all
}

func cellsOf(p api.Proof) []any {
	var all []any
	binds, steps := p.Binds[:cap(p.Binds)], p.Steps[:cap(p.Steps)]
	for i := range binds {
		all = append(all, &binds[i])
		all = append(all, cells(binds[i].T.Args)...)
	}
	for i := range steps {
		all = append(all, &steps[i])
		path := steps[i].Path[:cap(steps[i].Path)]
		for j := range path {
			all = append(all, &path[j])
		}
	}
	return all
}

func cellsOfAll(l []api.Proof) []any {
	var all []any
	room := l[:cap(l)]
	for i := range room {
		all = append(all, &room[i])
		all = append(all, cellsOf(room[i])...)
	}
	return all
}

// wantApart: no cell is there twice.
func wantApart(t *testing.T, what string, all ...[]any) {
	t.Helper()
	seen := map[any]int{}
	for _, c := range slices.Concat(all...) {
		seen[c]++
		if seen[c] > 1 {
			t.Fatalf("%s: memory is shared", what)
		}
	}
}

// proofOf is one that may hold: of an answer of Unify, of an instance of one, or of any binds, and with any steps.
func (m maker) proofOf(s api.Signature, q api.Equation) api.Proof {
	answers, _ := unify.Unify(s, q.L, q.R)
	b := m.unifying(s, answers)
	p, e := proof.Make(s, q.L, q.R, b)
	if e != api.OK {
		p = api.Proof{Binds: b, Steps: []api.Step{m.step(s, q.L), m.step(s, q.R)}}
	}
	return p
}

// P3: what is handed in, and its spare room, stays as it was; what comes out is new memory each time, of which no two lists share any, and writing on it changes nothing.
func TestMemory(t *testing.T) {
	made, found, held := 0, 0, 0
	for i, s := range signatures() {
		m := newMaker(int64(2370 + i))
		for j := range 150 {
			q := m.equation(s, 3+j%9, 3)
			p := m.proofOf(s, q)
			if j%8 == 0 {
				q = eq(m.spoilt(s, 6), m.spoilt(s, 6))
			}
			in := roomyGiven(s, q, p)
			was := in.whole()
			one, e := proof.Make(in.s, in.l, in.r, in.p.Binds)
			two, no := proof.Make(in.s, in.l, in.r, in.p.Binds)
			all, eAll := proof.All(in.s, in.l, in.r)
			more, noAll := proof.All(in.s, in.l, in.r)
			eCheck, at := proof.Check(in.s, in.l, in.r, in.p)
			if e != no || toldProof(one) != toldProof(two) || eAll != noAll || toldAll(all) != toldAll(more) {
				t.Fatalf("two answers: %s, %d; %s, %d; %s, %d; %s, %d", toldProof(one), e, toldProof(two), no, toldAll(all), eAll, toldAll(more), noAll)
			}
			wantApart(t, told(q), cellsOf(one), cellsOf(two), cellsOfAll(all), cellsOfAll(more), cells(in.l.Args), cells(in.r.Args), cellsOf(in.p))
			wantCheck(t, s, q, p, eCheck, at)
			text := toldProof(two) + toldAll(more)
			spoilProof(one)
			spoilAll(all)
			if toldProof(two)+toldAll(more) != text {
				t.Fatalf("spoilt by another answer: %s%s; was %s", toldProof(two), toldAll(more), text)
			}
			if in.whole() != was {
				t.Fatalf("changed: %s; was %s", in.whole(), was)
			}
			// What is written on later is not kept: an answer stays as it was.
			spoil(in.l.Args)
			spoil(in.r.Args)
			spoilProof(in.p)
			if toldProof(two)+toldAll(more) != text {
				t.Fatalf("%s%s; was %s", toldProof(two), toldAll(more), text)
			}
			made, found = made+len(two.Steps), found+len(more)
			if eCheck == api.OK {
				held++
			}
		}
	}
	if made < 500 || found < 200 || held < 200 {
		t.Errorf("%d steps of Make, %d proofs of All, %d that hold", made, found, held)
	}
}

// TestSharedComesOutApart: terms, binds and paths that share memory where they come in.
func TestSharedComesOutApart(t *testing.T) {
	s, in := example(), sy(plus, v("V"), sy(times, v("V"), sy(a)))
	put := []api.Bind{bind("X", in), bind("Y", sy(plus, in.Args...)), bind("Z", in)}
	l, r := sy(f, sy(plus, v("X"), sy(plus, v("Y"), sy(a))), v("X")), sy(f, sy(plus, sy(a), v("Z"), v("Z")), v("Y"))
	p, e := proof.Make(s, l, r, put)
	if e != api.OK || len(p.Steps) == 0 {
		t.Fatalf("%s, %d", toldProof(p), e)
	}
	wantApart(t, "proof", cellsOf(p), cells(in.Args), cells(l.Args), cells(r.Args))
	wantHolds(t, s, eq(l, r), p, put)
	path := []int{0, 1, 0}
	p.Steps = []api.Step{swap(0, path[:1]...), swap(0, path[:1]...), swap(0, path[2:]...), swap(0, path[2:]...)}
	wantCheck(t, s, eq(l, l), p, api.OK, 0)
	if path[0] != 0 || path[1] != 1 || path[2] != 0 || toldBinds(put) != toldBinds([]api.Bind{bind("X", in), bind("Y", in), bind("Z", in)}) {
		t.Error("changed")
	}
}

// P3: what a call answers does not hang on others at the same time.
func TestAtTheSameTime(t *testing.T) {
	s := example()
	var wait sync.WaitGroup
	for _, line := range []string{"plus(X,Y) = plus(Z,W)", "times(X,a) = times(Y,Y)", "f(times(X,Y),sum(X,Z)) = f(Z,times(a,Y))", "f(X,a) = f(a,Y)", "plus(A,B,C,D) = plus(E,F,G,H)"} {
		q := equation(t, line)
		want, wantE := proof.All(s, q.L, q.R)
		for range 2 {
			wait.Go(func() {
				for range 10 {
					l, e := proof.All(s, q.L, q.R)
					if toldAll(l) != toldAll(want) || e != wantE {
						t.Errorf("%s, at the same time: %s, %d", line, toldAll(l), e)
					}
					for i, p := range want {
						if e, at := proof.Check(s, q.L, q.R, p); e != api.OK || at != 0 {
							t.Errorf("%s, at the same time: proof %d, %d at %d", line, i, e, at)
						}
						if x, e := proof.Make(s, q.L, q.R, p.Binds); e != api.OK || toldProof(x) != toldProof(p) {
							t.Errorf("%s, at the same time: proof %d, %s, %d", line, i, toldProof(x), e)
						}
					}
				}
			})
		}
	}
	wait.Wait()
}

// P1 and P2: of anything each call ends, without a panic; with an error there is nothing else, but the place that Check tells of its own three.
func TestAnything(t *testing.T) {
	m := newMaker(2380)
	var all []api.Signature
	for _, x := range wrongSignatures() {
		all = append(all, x.s)
	}
	all = append(all, signatures()...)
	all = append(all, nil, make(api.Signature, 16), make(api.Signature, 100000))
	numbers := []int{-1 << 63, -1, 0, 1, 2, 3, 4, 5, 6, 99, 1 << 40, 1<<63 - 1}
	number := func() int { return numbers[m.Intn(len(numbers))] }
	for _, s := range all {
		for range 200 {
			l, r := m.spoilt(example(), 1+m.Intn(9)), m.spoilt(example(), 1+m.Intn(9))
			p := api.Proof{Binds: m.binds(example(), 4)}
			if m.Intn(3) == 0 {
				p.Binds = append(p.Binds, bind([]string{"Z", "X", "x", ""}[m.Intn(4)], m.spoilt(example(), 4)))
			}
			for range m.Intn(4) {
				p.Steps = append(p.Steps, api.Step{Kind: api.StepKind(number()), Path: []int{number()}[:m.Intn(2)], At: number(), Many: number(), Sym: number()})
			}
			if e, at := proof.Check(s, l, r, p); at != 0 && e != 231 && e != 232 && e != 233 {
				t.Fatalf("%d at %d", e, at)
			}
			if x, e := proof.Make(s, l, r, p.Binds); e != api.OK && !isZero(x) {
				t.Fatalf("%s and an error, %d", toldProof(x), e)
			}
			if x, e := proof.All(s, l, r); e != api.OK && len(x) > 0 {
				t.Fatalf("%s and an error, %d", toldAll(x), e)
			}
		}
	}
}

// wantShort holds the errors of Check and Make, and of All where nothing is bound, and writes no term where they are others.
func wantShort(t *testing.T, s api.Signature, q api.Equation, p api.Proof, want api.Errno, at int, wantMake api.Errno) {
	t.Helper()
	if e, i := proof.Check(s, q.L, q.R, p); e != want || i != at {
		t.Errorf("Check: %d at %d; want %d at %d", e, i, want, at)
	}
	if x, e := proof.Make(s, q.L, q.R, p.Binds); e != wantMake || e != api.OK && !isZero(x) {
		t.Errorf("Make: %d; want %d", e, wantMake)
	}
	if p.Binds == nil && wantMake != api.OK {
		if l, e := proof.All(s, q.L, q.R); e != wantMake || len(l) > 0 {
			t.Errorf("All: %d proofs, %d; want %d", len(l), e, wantMake)
		}
	}
}

// TestDeepTerms: P1 for terms, and paths, as deep as the document's bound allows, right ones and wrong ones.
func TestDeepTerms(t *testing.T) {
	s, deep, wrong := example(), v("X"), v("X")
	for i := range 1<<16 - 7 {
		deep = sy(f, sy(a), deep)
		wrong = api.Term{Var: []string{"", "x"}[i/100%2], Sym: i%7 - 1, Args: []api.Term{wrong}}
	}
	for _, x := range []api.Term{deep, wrong} {
		for _, q := range []api.Equation{eq(x, sy(a)), eq(sy(a), x), eq(x, x)} {
			wantShort(t, s, q, api.Proof{}, api.ErrTermsLong, 0, api.ErrTermsLong)
		}
		put := []api.Bind{bind("X", sy(a)), bind("Y", x)}
		wantShort(t, s, eq(v("X"), v("X")), api.Proof{Binds: put}, api.ErrProofBinds, 1, api.ErrSubstGrown)
		wantShort(t, s, eq(v("Y"), v("Y")), api.Proof{Binds: put}, api.ErrProofBinds, 1, api.ErrSubstGrown)
	}
	path := slices.Repeat([]int{0}, 1000000)
	wantCheck(t, s, equation(t, "plus(X,a) = plus(a,X)"), api.Proof{Steps: []api.Step{swap(0), swap(0, path...)}}, api.ErrProofStep, 1)
}

// TestManySteps: P1 for rows of steps as long as can be waited for, on terms that they make very deep, or very wide.
func TestManySteps(t *testing.T) {
	const n = 300000
	s, q := example(), equation(t, "plus(X,a) = plus(X,a)")
	around, apart := slices.Repeat([]api.Step{grow(times, 1, 1)}, n), slices.Repeat([]api.Step{drop(1)}, n)
	wantCheck(t, s, q, api.Proof{Steps: around}, api.ErrProofEnd, n)
	wantCheck(t, s, q, api.Proof{Steps: slices.Concat(around, apart)}, api.OK, 0)
	wantCheck(t, s, q, api.Proof{Steps: slices.Concat(around, apart, apart[:1])}, api.ErrProofStep, 2*n)
	wantCheck(t, s, equation(t, "times(one,X) = times(one,X)"), api.Proof{Steps: slices.Repeat([]api.Step{grow(times, 1, 0)}, n)}, api.ErrProofEnd, n)
	var wide []api.Step
	for i := range n {
		wide = append(wide, grow(times, 0, 2+i))
	}
	for i := range n {
		wide = append(wide, drop(1+n-i))
	}
	x := equation(t, "times(X,a) = times(X,a)")
	wantCheck(t, s, x, api.Proof{Steps: wide[:n]}, api.ErrProofEnd, n)
	wantCheck(t, s, x, api.Proof{Steps: wide}, api.OK, 0)
	swaps := slices.Repeat([]api.Step{swap(0)}, n)
	wantCheck(t, s, q, api.Proof{Steps: swaps}, api.OK, 0)
	wantCheck(t, s, q, api.Proof{Steps: swaps[1:]}, api.ErrProofEnd, n-1)
}

// TestWideLists: P1 for many arguments, many binds, many symbols.
func TestWideLists(t *testing.T) {
	const n = 1000000
	s, x := example(), eq(sy(a), sy(a))
	wide := sy(plus, many(n, v("X"))...)
	wantShort(t, s, eq(wide, sy(a)), api.Proof{}, api.ErrTermsLong, 0, api.ErrTermsLong)
	wantShort(t, s, eq(sy(a), wide), api.Proof{}, api.ErrTermsLong, 0, api.ErrTermsLong)
	wantShort(t, s, x, api.Proof{Binds: []api.Bind{bind("X", wide)}}, api.ErrProofBinds, 0, api.ErrSubstGrown)
	wantShort(t, make(api.Signature, n), x, api.Proof{}, api.ErrSigMany, 0, api.ErrSigMany)
	var put []api.Bind
	for i := range 100000 {
		put = append(put, bind("X"+strconv.Itoa(1000000+i), sy(one)))
	}
	q := equation(t, "times(X1000007,a) = times(a,X1099999)")
	p, e := proof.Make(s, q.L, q.R, put)
	if e != api.OK || len(p.Binds) != len(put) || toldBinds(p.Binds) != toldBinds(put) {
		t.Fatalf("%d binds, %d", len(p.Binds), e)
	}
	wantShort(t, s, q, p, api.OK, 0, api.OK)
	wantShort(t, s, q, api.Proof{Binds: append(put, bind("X", sy(a))), Steps: p.Steps}, api.ErrProofBinds, 100000, api.ErrSubstVar)
}
