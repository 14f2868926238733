package match_test

import (
	"slices"
	"strconv"
	"strings"
	"sync"
	"testing"

	"amalgam/api"
	"amalgam/match"
)

// roomy is a term of which each list has spare room, with something in it.
func roomy(t api.Term) api.Term {
	t.Args = roomyList(t.Args)
	return t
}

func roomyList(in []api.Term) []api.Term {
	l := make([]api.Term, 0, len(in)+2)
	for _, x := range in {
		l = append(l, roomy(x))
	}
	copy(l[len(l):cap(l)], []api.Term{v("Spare"), sy(plus, v("Spare"), sy(a))})
	return l
}

func roomyBinds(in []api.Bind) []api.Bind {
	l := make([]api.Bind, 0, len(in)+2)
	for _, x := range in {
		l = append(l, bind(x.Var, roomy(x.T)))
	}
	copy(l[len(l):cap(l)], []api.Bind{bind("Z", sy(a)), bind("Spare", sy(plus, v("Spare"), sy(a)))})
	return l
}

func roomySignature(s api.Signature) api.Signature {
	room := append(make(api.Signature, 0, len(s)+3), s...)
	copy(room[len(room):cap(room)], example()[3:])
	return room
}

// whole tells a list of terms with all its spare room.
func whole(l []api.Term) string {
	var b strings.Builder
	writeWhole(&b, l)
	return b.String()
}

func writeWhole(b *strings.Builder, l []api.Term) {
	b.WriteString("<")
	for _, x := range l[:cap(l)] {
		b.WriteString(x.Var + "'" + strconv.Itoa(x.Sym))
		writeWhole(b, x.Args)
	}
	b.WriteString(">" + strconv.Itoa(len(l)))
}

func wholeBinds(l []api.Bind) string {
	var b strings.Builder
	for _, x := range l[:cap(l)] {
		b.WriteString(x.Var + " -> " + x.T.Var + "'" + strconv.Itoa(x.T.Sym))
		writeWhole(&b, x.T.Args)
	}
	return b.String() + strconv.Itoa(len(l))
}

// spoil writes on all memory of a list of terms, its spare room too.
func spoil(l []api.Term) {
	l = l[:cap(l)]
	for i, x := range l {
		spoil(x.Args)
		l[i] = api.Term{Var: "Spoilt", Sym: 66, Args: []api.Term{v("Spoilt")}}
	}
}

func spoilBinds(l []api.Bind) {
	l = l[:cap(l)]
	for i, b := range l {
		spoil(b.T.Args)
		l[i] = bind("Spoilt", sy(66, v("Spoilt")))
	}
}

func spoilLists(lists [][]api.Bind) {
	lists = lists[:cap(lists)]
	for i, l := range lists {
		spoilBinds(l)
		lists[i] = []api.Bind{bind("Spoilt", v("Spoilt"))}
	}
}

// cells are the addresses of all memory of a list of terms.
func cells(l []api.Term) []any {
	var all []any
	room := l[:cap(l)]
	for i := range room {
		all = append(all, &room[i])
		all = append(all, cells(room[i].Args)...)
	}
	return all
}

func cellsOfBinds(l []api.Bind) []any {
	var all []any
	room := l[:cap(l)]
	for i := range room {
		all = append(all, &room[i])
		all = append(all, cells(room[i].T.Args)...)
	}
	return all
}

func cellsOfLists(lists [][]api.Bind) []any {
	var all []any
	room := lists[:cap(lists)]
	for i := range room {
		all = append(all, &room[i])
		all = append(all, cellsOfBinds(room[i])...)
	}
	return all
}

// wantApart: no cell is there twice.
func wantApart(t *testing.T, what string, all ...[]any) {
	t.Helper()
	seen := map[any]int{}
	for _, c := range slices.Concat(all...) {
		seen[c]++
		if seen[c] > 1 {
			t.Fatalf("%s: memory is shared", what)
		}
	}
}

// P3: what is handed in, and its spare room, stays as it was; what comes out is new memory each time, of which no two lists share any, and writing on it changes nothing.
func TestMemory(t *testing.T) {
	found := 0
	for i, s := range signatures() {
		m := newMaker(int64(1010 + i))
		for j := range 400 {
			x := m.problem(s, m.Intn(4), 3+j%9, 3)
			if j%4 == 0 {
				x = of(m.spoilt(s, 6), m.spoilt(s, 6))
			}
			in, room := problem{roomyList(x.p), roomyList(x.t)}, roomySignature(s)
			wasP, wasT, wasRoom := whole(in.p), whole(in.t), slices.Clone(room[:cap(room)])
			first, e := match.Many(room, in.p, in.t)
			second, no := match.Many(room, in.p, in.t)
			if e != no || toldLists(first) != toldLists(second) || e != api.OK && len(first) > 0 {
				t.Fatalf("two answers: %s, %d; %s, %d", toldLists(first), e, toldLists(second), no)
			}
			wantMany(t, s, x, first, e)
			found += len(first)
			one, is, no := match.First(room, in.p, in.t)
			wantFirst(t, s, x, one, is, no)
			wantApart(t, x.String(), cellsOfLists(first), cellsOfLists(second), cellsOfBinds(one), cells(in.p), cells(in.t))
			text, textOne := toldLists(second), toldBinds(one)
			spoilLists(first)
			if toldLists(second) != text || toldBinds(one) != textOne {
				t.Fatalf("spoilt by another answer: %s; was %s", toldLists(second), text)
			}
			spoilLists(second)
			spoilBinds(one)
			if whole(in.p) != wasP || whole(in.t) != wasT || !slices.Equal(room[:cap(room)], wasRoom) {
				t.Fatalf("changed: %s and %s; were %s and %s", whole(in.p), whole(in.t), wasP, wasT)
			}
		}
	}
	if found < 800 {
		t.Errorf("only %d answers", found)
	}
}

// TestMemoryOfAll: the same of All, whose terms stand in no list.
func TestMemoryOfAll(t *testing.T) {
	for i, s := range signatures() {
		m := newMaker(int64(1015 + i))
		for range 200 {
			x := m.problem(s, 1, 9, 3)
			p, q := roomy(x.p[0]), roomy(x.t[0])
			wasP, wasT := whole(p.Args), whole(q.Args)
			l, e := match.All(s, p, q)
			wantMany(t, s, x, l, e)
			wantApart(t, x.String(), cellsOfLists(l), cells(p.Args), cells(q.Args))
			spoilLists(l)
			if whole(p.Args) != wasP || whole(q.Args) != wasT {
				t.Fatalf("changed: %s and %s; were %s and %s", whole(p.Args), whole(q.Args), wasP, wasT)
			}
		}
	}
}

// TestMemoryOfIs: what is handed in stays as it was.
func TestMemoryOfIs(t *testing.T) {
	yes := 0
	for i, s := range signatures() {
		m := newMaker(int64(1020 + i))
		for range 300 {
			x := m.problem(s, 1, 9, 3)
			p, q, b, room := roomy(x.p[0]), roomy(x.t[0]), roomyBinds(m.binds(s, x)), roomySignature(s)
			wasP, wasT, was, wasRoom := whole(p.Args), whole(q.Args), wholeBinds(b), slices.Clone(room[:cap(room)])
			is, e := match.Is(room, p, q, b)
			if whole(p.Args) != wasP || whole(q.Args) != wasT || wholeBinds(b) != was || !slices.Equal(room[:cap(room)], wasRoom) {
				t.Fatalf("changed: %s, %s, %s; were %s, %s, %s", whole(p.Args), whole(q.Args), wholeBinds(b), wasP, wasT, was)
			}
			wantIs(t, s, x.p[0], x.t[0], b, is, e)
			if is {
				yes++
			}
		}
	}
	if yes < 200 {
		t.Errorf("only %d match", yes)
	}
}

// TestSharedComesOutApart: terms that share memory where they come in, and a subject's argument that comes out more than once.
func TestSharedComesOutApart(t *testing.T) {
	in := sy(f, sy(a), sy(times, v("C"), sy(b)))
	for _, x := range []problem{
		of(sy(f, v("X"), v("Y")), sy(f, in, in)),
		of(v("X"), in, v("Y"), in, sy(plus, v("Z"), v("W")), sy(plus, in, in, in, in)),
		of(sy(plus, v("X"), v("X"), v("Y")), sy(plus, in, in, in, in, in)),
		of(sy(times, v("X"), v("Y"), v("Z")), in),
	} {
		l, e := match.Many(example(), x.p, x.t)
		b, is, no := match.First(example(), x.p, x.t)
		if e != api.OK || no != api.OK || !is || len(l) == 0 {
			t.Fatalf("%s, %d", toldLists(l), e)
		}
		wantApart(t, x.String(), cellsOfLists(l), cellsOfBinds(b), cells(in.Args))
	}
	same := sy(plus, v("X"), sy(g, v("Y")))
	wantMany(t, example(), of(same, same), [][]api.Bind{nil}, api.OK)
	l := []api.Term{v("X"), same}
	wantMany(t, example(), problem{l, l}, [][]api.Bind{nil}, api.OK)
}

// P3: what a call answers does not hang on others at the same time.
func TestAtTheSameTime(t *testing.T) {
	lines := []string{"plus(X,Y) = plus(a,a,b,b)", "times(X,Y,Z) = times(a,a)", "f(times(X,Y),sum(X,Z)) = f(a,sum(a,b))", "plus(g(X),g(Y),Z) = plus(g(a),g(b),g(C),C)", "plus(X,Y) = plus(a,a,a,a,a,a,a)", "X = a; X = b"}
	s := example()
	var group sync.WaitGroup
	for _, line := range lines {
		x := read(t, line)
		want, wantE := match.Many(s, x.p, x.t)
		first, wantIs, firstE := match.First(s, x.p, x.t)
		for range 2 {
			group.Go(func() {
				for range 20 {
					if l, e := match.Many(s, x.p, x.t); toldLists(l) != toldLists(want) || e != wantE {
						t.Errorf("%s, at the same time: %s, %d", line, toldLists(l), e)
					}
					if b, is, e := match.First(s, x.p, x.t); toldBinds(b) != toldBinds(first) || is != wantIs || e != firstE {
						t.Errorf("%s, at the same time: %s, %v, %d", line, toldBinds(b), is, e)
					}
					if is, e := match.Is(s, x.p[0], x.t[0], first); e != api.OK || wantIs && !is {
						t.Errorf("%s, at the same time: %v, %d", line, is, e)
					}
				}
			})
		}
	}
	group.Wait()
}

// P1: of anything each call ends, without a panic; with an error there is nothing else.
func TestAnything(t *testing.T) {
	m := newMaker(1030)
	var all []api.Signature
	for _, x := range wrongSignatures() {
		all = append(all, x.s)
	}
	all = append(all, signatures()...)
	all = append(all, nil, api.Signature{{}}, make(api.Signature, 16), make(api.Signature, 100000))
	for _, s := range all {
		for range 150 {
			var x problem
			for range m.Intn(4) {
				x = x.and(of(m.spoilt(example(), 1+m.Intn(9)), m.spoilt(example(), 1+m.Intn(9))))
			}
			if m.Intn(6) == 0 {
				x.t = append(x.t, sy(a))
			}
			l, e := match.Many(s, x.p, x.t)
			if e != api.OK && len(l) > 0 {
				t.Fatalf("%s and an error, %d", toldLists(l), e)
			}
			if b, is, e := match.First(s, x.p, x.t); (e != api.OK || !is) && (is || len(b) > 0) {
				t.Fatalf("%s, %v and an error, %d", toldBinds(b), is, e)
			}
			b := []api.Bind{bind("X", m.spoilt(example(), 3)), bind("Y", m.spoilt(example(), 3))}
			if is, e := match.Is(s, m.spoilt(example(), 6), m.spoilt(example(), 6), b); e != api.OK && is {
				t.Fatalf("true and an error, %d", e)
			}
		}
	}
}

// TestDeepTerms: P1 for terms as deep as the document's bound allows, right ones and wrong ones.
func TestDeepTerms(t *testing.T) {
	deep := v("X")
	for range 1<<16 - 6 {
		deep = sy(f, sy(a), deep)
	}
	wrong := v("X")
	for i := range 1<<16 - 4 {
		wrong = api.Term{Var: []string{"", "x"}[i/100%2], Sym: i%7 - 1, Args: []api.Term{wrong}}
	}
	for _, x := range []problem{of(deep, sy(a)), of(sy(a), deep), of(deep, deep), of(wrong, sy(a)), of(v("X"), wrong)} {
		wantShort(t, example(), x, nil, api.ErrTermsLong)
	}
	wantShort(t, example(), of(sy(a), sy(a)), []api.Bind{bind("X", deep)}, api.ErrSubstGrown)
	wantShort(t, example(), of(sy(a), sy(a)), []api.Bind{bind("X", wrong)}, api.ErrSubstGrown)
}

// wantShort holds the errors of all calls, and writes no term where they are others; binds are Is's alone.
func wantShort(t *testing.T, s api.Signature, x problem, b []api.Bind, want api.Errno) {
	t.Helper()
	if b == nil {
		if l, e := match.Many(s, x.p, x.t); e != want || len(l) > 0 {
			t.Errorf("%d answers, %d; want %d", len(l), e, want)
		}
		if l, is, e := match.First(s, x.p, x.t); e != want || is || len(l) > 0 {
			t.Errorf("First: %v, %d; want %d", is, e, want)
		}
	}
	if is, e := match.Is(s, x.p[0], x.t[0], b); is || e != want {
		t.Errorf("Is: %v, %d; want %d", is, e, want)
	}
}

// TestWideLists: P1 for many arguments, many pairs, many binds, many symbols.
func TestWideLists(t *testing.T) {
	const n = 1000000
	wide := sy(plus, many(n, v("X"))...)
	wantShort(t, example(), of(wide, sy(a)), nil, api.ErrTermsLong)
	wantShort(t, example(), of(sy(a), wide), nil, api.ErrTermsLong)
	wantShort(t, example(), of(sy(a), sy(a)), []api.Bind{bind("X", wide)}, api.ErrSubstGrown)
	wantShort(t, make(api.Signature, n), of(sy(a), sy(a)), nil, api.ErrSigMany)
	if l, e := match.Many(example(), many(n, wide), many(n, wide)); e != api.ErrMatchPairs || len(l) > 0 {
		t.Errorf("%d answers, %d", len(l), e)
	}
	var b []api.Bind
	for i := range 100000 {
		b = append(b, bind("X"+strconv.Itoa(1000000+i), sy(one)))
	}
	wantIs(t, example(), sy(times, v("X1000007"), v("X1000008")), sy(one), b, false, api.OK)
	wantIs(t, example(), sy(times, v("X1000007"), v("X1000008")), sy(one), b[7:9], true, api.OK)
}
