package unify_test

import (
	"slices"
	"strconv"
	"strings"
	"sync"
	"testing"

	"amalgam/api"
	"amalgam/unify"
)

// roomy is a term of which each list has spare room, with something in it.
func roomy(t api.Term) api.Term {
	l := make([]api.Term, 0, len(t.Args)+2)
	for _, x := range t.Args {
		l = append(l, roomy(x))
	}
	copy(l[len(l):cap(l)], []api.Term{v("Spare"), sy(plus, v("Spare"), sy(a))})
	t.Args = l
	return t
}

func roomyBinds(in []api.Bind) []api.Bind {
	l := make([]api.Bind, 0, len(in)+2)
	for _, x := range in {
		l = append(l, bind(x.Var, roomy(x.T)))
	}
	copy(l[len(l):cap(l)], []api.Bind{bind("Z", sy(a)), bind("Spare", sy(plus, v("Spare"), sy(a)))})
	return l
}

func roomySignature(s api.Signature) api.Signature {
	room := append(make(api.Signature, 0, len(s)+3), s...)
	copy(room[len(room):cap(room)], example()[3:])
	return room
}

// whole tells a term with all its spare room.
func whole(t api.Term) string {
	var b strings.Builder
	writeWhole(&b, t)
	return b.String()
}

func writeWhole(b *strings.Builder, t api.Term) {
	b.WriteString(t.Var + "'" + strconv.Itoa(t.Sym) + "<")
	for _, x := range t.Args[:cap(t.Args)] {
		writeWhole(b, x)
	}
	b.WriteString(">" + strconv.Itoa(len(t.Args)))
}

func wholeBinds(l []api.Bind) string {
	var b strings.Builder
	for _, x := range l[:cap(l)] {
		b.WriteString(x.Var + " -> ")
		writeWhole(&b, x.T)
	}
	return b.String() + strconv.Itoa(len(l))
}

// spoil writes on all memory of a list of terms, its spare room too.
func spoil(l []api.Term) {
	l = l[:cap(l)]
	for i, x := range l {
		spoil(x.Args)
		l[i] = api.Term{Var: "Spoilt", Sym: 66, Args: []api.Term{v("Spoilt")}}
	}
}

func spoilLists(lists [][]api.Bind) {
	lists = lists[:cap(lists)]
	for i, l := range lists {
		l = l[:cap(l)]
		for j, b := range l {
			spoil(b.T.Args)
			l[j] = bind("Spoilt", sy(66, v("Spoilt")))
		}
		lists[i] = []api.Bind{bind("Spoilt", v("Spoilt"))}
	}
}

// cells are the addresses of all memory of a list of terms.
func cells(l []api.Term) []any {
	var all []any
	room := l[:cap(l)]
	for i := range room {
		all = append(all, &room[i])
		all = append(all, cells(room[i].Args)...)
	}
	return all
}

func cellsOfLists(lists [][]api.Bind) []any {
	var all []any
	room := lists[:cap(lists)]
	for i := range room {
		all = append(all, &room[i])
		binds := room[i][:cap(room[i])]
		for j := range binds {
			all = append(all, &binds[j])
			all = append(all, cells(binds[j].T.Args)...)
		}
	}
	return all
}

// wantApart: no cell is there twice.
func wantApart(t *testing.T, what string, all ...[]any) {
	t.Helper()
	seen := map[any]int{}
	for _, c := range slices.Concat(all...) {
		seen[c]++
		if seen[c] > 1 {
			t.Fatalf("%s: memory is shared", what)
		}
	}
}

// P3: what is handed in, and its spare room, stays as it was; what comes out is new memory each time, of which no two lists share any, and writing on it changes nothing.
func TestMemory(t *testing.T) {
	found := 0
	for i, s := range signatures() {
		m := newMaker(int64(810 + i))
		for j := range 300 {
			q := m.equation(s, 3+j%9, 3)
			if j%4 == 0 {
				q = eq(m.spoilt(s, 6), m.spoilt(s, 6))
			}
			l, r, room := roomy(q.L), roomy(q.R), roomySignature(s)
			wasL, wasR, wasRoom := whole(l), whole(r), slices.Clone(room[:cap(room)])
			first, e := unify.Unify(room, l, r)
			second, no := unify.Unify(room, l, r)
			if e != no || toldLists(first) != toldLists(second) || e != api.OK && len(first) > 0 {
				t.Fatalf("two answers: %s, %d; %s, %d", toldLists(first), e, toldLists(second), no)
			}
			wantUnify(t, s, q, first, e)
			found += len(first)
			wantApart(t, told(q), cellsOfLists(first), cellsOfLists(second), cells(l.Args), cells(r.Args))
			text := toldLists(second)
			spoilLists(first)
			if toldLists(second) != text {
				t.Fatalf("spoilt by another answer: %s; was %s", toldLists(second), text)
			}
			spoilLists(second)
			if whole(l) != wasL || whole(r) != wasR || !slices.Equal(room[:cap(room)], wasRoom) {
				t.Fatalf("changed: %s and %s; were %s and %s", whole(l), whole(r), wasL, wasR)
			}
		}
	}
	if found < 400 {
		t.Errorf("only %d answers", found)
	}
}

// TestMemoryOfIs: what is handed in stays as it was.
func TestMemoryOfIs(t *testing.T) {
	yes := 0
	for i, s := range signatures() {
		m := newMaker(int64(820 + i))
		for range 300 {
			q := m.equation(s, 9, 3)
			found, _ := unify.Unify(s, q.L, q.R)
			l, r, b, room := roomy(q.L), roomy(q.R), roomyBinds(m.binds(s, found)), roomySignature(s)
			wasL, wasR, was, wasRoom := whole(l), whole(r), wholeBinds(b), slices.Clone(room[:cap(room)])
			is, e := unify.Is(room, l, r, b)
			if whole(l) != wasL || whole(r) != wasR || wholeBinds(b) != was || !slices.Equal(room[:cap(room)], wasRoom) {
				t.Fatalf("changed: %s, %s, %s; were %s, %s, %s", whole(l), whole(r), wholeBinds(b), wasL, wasR, was)
			}
			wantIs(t, s, q, b, is, e)
			if is {
				yes++
			}
		}
	}
	if yes < 100 {
		t.Errorf("only %d unify", yes)
	}
}

// TestSharedComesOutApart: terms that share memory where they come in.
func TestSharedComesOutApart(t *testing.T) {
	in := sy(f, v("X"), sy(times, v("Y"), sy(a)))
	l, e := unify.Unify(example(), sy(f, sy(f, in, in), v("Z")), sy(f, v("W"), sy(f, in, in)))
	if e != api.OK || len(l) == 0 {
		t.Fatalf("%s, %d", toldLists(l), e)
	}
	wantApart(t, "answers", cellsOfLists(l), cells(in.Args))
	same := sy(plus, v("X"), sy(g, v("Y")))
	wantUnify(t, example(), eq(same, same), lists(t, ""), api.OK)
}

// P3: what a call answers does not hang on others at the same time.
func TestAtTheSameTime(t *testing.T) {
	lines := []string{"plus(X,Y) = plus(Z,W)", "times(X,a) = times(Y,Y)", "f(times(X,Y),sum(X,Z)) = f(Z,times(a,Y))", "f(X,a) = f(a,Y)", "plus(A,B,C,D) = plus(E,F,G,H)", "times(X,Y) = Z"}
	s := example()
	var group sync.WaitGroup
	for _, line := range lines {
		q := equation(t, line)
		want, wantE := unify.Unify(s, q.L, q.R)
		for range 2 {
			group.Go(func() {
				for range 10 {
					l, e := unify.Unify(s, q.L, q.R)
					if toldLists(l) != toldLists(want) || e != wantE {
						t.Errorf("%s, at the same time: %s, %d", line, toldLists(l), e)
					}
					for _, b := range l {
						if is, e := unify.Is(s, q.L, q.R, b); !is || e != api.OK {
							t.Errorf("%s, at the same time: %v, %d", line, is, e)
						}
					}
				}
			})
		}
	}
	group.Wait()
}

// P1: of anything each call ends, without a panic; with an error there is nothing else.
func TestAnything(t *testing.T) {
	m := newMaker(830)
	var all []api.Signature
	for _, x := range wrongSignatures() {
		all = append(all, x.s)
	}
	all = append(all, signatures()...)
	all = append(all, nil, api.Signature{{}}, make(api.Signature, 16), make(api.Signature, 100000))
	for _, s := range all {
		for range 150 {
			l, r := m.spoilt(example(), 1+m.Intn(9)), m.spoilt(example(), 1+m.Intn(9))
			found, e := unify.Unify(s, l, r)
			if e != api.OK && len(found) > 0 {
				t.Fatalf("%s and an error, %d", toldLists(found), e)
			}
			if is, e := unify.Is(s, l, r, m.binds(example(), found)); e != api.OK && is {
				t.Fatalf("true and an error, %d", e)
			}
		}
	}
}

// deep is a term as deep as the document's bound allows.
func deep(leaf api.Term) api.Term {
	for range 1<<16 - 6 {
		leaf = sy(f, sy(a), leaf)
	}
	return leaf
}

// TestDeepTerms: P1 for terms as deep as the document's bound allows, right ones and wrong ones.
func TestDeepTerms(t *testing.T) {
	x := deep(v("_1"))
	wrong := v("X")
	for i := range 1<<16 - 4 {
		wrong = api.Term{Var: []string{"", "x"}[i/100%2], Sym: i%7 - 1, Args: []api.Term{wrong}}
	}
	for _, q := range []api.Equation{eq(x, sy(a)), eq(sy(a), x), eq(x, x), eq(wrong, sy(a)), eq(v("_1"), wrong)} {
		wantShort(t, example(), q, nil, api.ErrTermsLong)
	}
	wantShort(t, example(), eq(sy(a), sy(a)), []api.Bind{bind("X", x)}, api.ErrSubstGrown)
	wantShort(t, example(), eq(sy(a), sy(a)), []api.Bind{bind("X", wrong)}, api.ErrSubstGrown)
}

// wantShort holds the errors of both calls, and writes no term where they are others; binds are Is's alone.
func wantShort(t *testing.T, s api.Signature, q api.Equation, b []api.Bind, want api.Errno) {
	t.Helper()
	if b == nil {
		if l, e := unify.Unify(s, q.L, q.R); e != want || len(l) > 0 {
			t.Errorf("%d answers, %d; want %d", len(l), e, want)
		}
	}
	if is, e := unify.Is(s, q.L, q.R, b); is || e != want {
		t.Errorf("Is: %v, %d; want %d", is, e, want)
	}
}

// TestWideLists: P1 for many arguments, many binds, many symbols.
func TestWideLists(t *testing.T) {
	const n = 1000000
	wide := sy(plus, many(n, v("X"))...)
	wantShort(t, example(), eq(wide, sy(a)), nil, api.ErrTermsLong)
	wantShort(t, example(), eq(sy(a), wide), nil, api.ErrTermsLong)
	wantShort(t, example(), eq(sy(a), sy(a)), []api.Bind{bind("X", wide)}, api.ErrSubstGrown)
	wantShort(t, make(api.Signature, n), eq(sy(a), sy(a)), nil, api.ErrSigMany)
	var b []api.Bind
	for i := range 100000 {
		b = append(b, bind("X"+strconv.Itoa(1000000+i), sy(one)))
	}
	wantIs(t, example(), equation(t, "times(X1000007,a) = both(a,X1099999)"), b, true, api.OK)
	wantShort(t, example(), eq(sy(a), sy(a)), append(b, bind("X", sy(a))), api.ErrSubstVar)
}
