package step_test

import (
	"math"
	"slices"
	"strconv"
	"strings"
	"sync"
	"testing"

	"amalgam/api"
	"amalgam/step"
	"amalgam/terms"
)

// roomy is a term of which each list has spare room, with something in it.
func roomy(t api.Term) api.Term {
	l := make([]api.Term, 0, len(t.Args)+2)
	for _, x := range t.Args {
		l = append(l, roomy(x))
	}
	copy(l[len(l):cap(l)], []api.Term{v("Spare"), sy(plus, v("Spare"), sy(a))})
	t.Args = l
	return t
}

func roomyEquations(in []api.Equation) []api.Equation {
	l := make([]api.Equation, 0, len(in)+2)
	for _, x := range in {
		l = append(l, eq(roomy(x.L), roomy(x.R)))
	}
	copy(l[len(l):cap(l)], []api.Equation{eq(v("X"), sy(a)), eq(sy(plus, v("Spare"), sy(a)), v("Spare"))})
	return l
}

// whole tells equations with all their spare room.
func whole(l []api.Equation) string {
	var b strings.Builder
	for _, x := range l[:cap(l)] {
		writeWhole(&b, x.L)
		writeWhole(&b, x.R)
	}
	return b.String()
}

func writeWhole(b *strings.Builder, t api.Term) {
	b.WriteString(t.Var + "'" + strconv.Itoa(t.Sym) + "<")
	for _, x := range t.Args[:cap(t.Args)] {
		writeWhole(b, x)
	}
	b.WriteString(">")
}

// spoil writes on all memory of a list of terms, its spare room too.
func spoil(l []api.Term) {
	l = l[:cap(l)]
	for i, x := range l {
		spoil(x.Args)
		l[i] = api.Term{Var: "Spoilt", Sym: 66, Args: []api.Term{v("Spoilt")}}
	}
}

func spoilEquations(l []api.Equation) {
	l = l[:cap(l)]
	for i, x := range l {
		spoil(x.L.Args)
		spoil(x.R.Args)
		l[i] = eq(sy(66, v("Spoilt")), v("Spoilt"))
	}
}

func spoilBinds(l []api.Bind) {
	l = l[:cap(l)]
	for i, x := range l {
		spoil(x.T.Args)
		l[i] = bind("Spoilt", sy(66, v("Spoilt")))
	}
}

// cells are the addresses of all memory of a list of terms.
func cells(l []api.Term) []any {
	var all []any
	room := l[:cap(l)]
	for i := range room {
		all = append(all, &room[i])
		all = append(all, cells(room[i].Args)...)
	}
	return all
}

func cellsOfEquations(l []api.Equation) []any {
	var all []any
	room := l[:cap(l)]
	for i := range room {
		all = append(all, &room[i])
		all = append(all, cells(room[i].L.Args)...)
		all = append(all, cells(room[i].R.Args)...)
	}
	return all
}

func cellsOfBinds(l []api.Bind) []any {
	var all []any
	room := l[:cap(l)]
	for i := range room {
		all = append(all, &room[i])
		all = append(all, cells(room[i].T.Args)...)
	}
	return all
}

// wantApart: no cell is there twice.
func wantApart(t *testing.T, what string, all ...[]any) {
	t.Helper()
	seen := map[any]int{}
	for _, c := range slices.Concat(all...) {
		seen[c]++
		if seen[c] > 1 {
			t.Fatalf("%s: memory is shared", what)
		}
	}
}

// answer is what both calls answer: One of each equation, Free of all of them.
type answer struct {
	ways  []api.Way
	binds []api.Bind
	ok    bool
	e     api.Errno
}

func ask(s api.Signature, l []api.Equation) answer {
	var x answer
	for _, e := range l {
		x.ways = append(x.ways, step.One(s, e))
	}
	x.binds, x.ok, x.e = step.Free(s, l)
	return x
}

func (x answer) told() string {
	text := writtenBinds(x.binds) + " " + strconv.FormatBool(x.ok) + " " + strconv.Itoa(int(x.e))
	for _, w := range x.ways {
		text += " / " + writtenWay(w)
	}
	return text
}

func (x answer) cells() []any {
	all := cellsOfBinds(x.binds)
	for _, w := range x.ways {
		all = slices.Concat(all, cells(w.Bind.T.Args), cellsOfEquations(w.L))
	}
	return all
}

func (x answer) spoil() {
	spoilBinds(x.binds)
	for _, w := range x.ways {
		spoil(w.Bind.T.Args)
		spoilEquations(w.L)
	}
}

// wrongSignatures are such that sig's Check refuses.
func wrongSignatures() []api.Signature {
	return []api.Signature{
		nil,
		{},
		example()[1:],
		{{}, {}, {}, {}, {}},
		{{Kind: api.Free}, {Kind: api.Free}, {Kind: api.Free, Arity: -1}},
		{{Kind: api.AC}, {Kind: api.ACU}, {Kind: 4}, {Kind: -1}, {Kind: math.MaxInt}, {Kind: math.MinInt}},
		{{Name: "u", Kind: api.ACU, Unit: "u"}, {Name: "v", Kind: api.ACU, Unit: "w"}, {Name: "w", Kind: api.ACU, Unit: "v"}, {Name: "z", Kind: api.ACU, Unit: "none"}},
		{{Name: "u", Kind: api.AC, Arity: 7}, {Name: "v", Kind: api.ACU, Unit: "u"}, {Name: "f", Kind: api.Free, Arity: -3}, {Name: "w", Kind: api.ACU, Unit: "f"}},
		slices.Repeat(example(), 200),
	}
}

// list makes some equations, of right terms or of any.
func (m maker) list(s api.Signature, spoilt bool) []api.Equation {
	var l []api.Equation
	for range m.Intn(5) {
		x := m.canonical(s, 1+m.Intn(12))
		e := eq(x, m.changed(s, x))
		if spoilt {
			e = eq(m.spoilt(s, 12), m.spoilt(s, 12))
		}
		if m.Intn(3) == 0 {
			e.L = v(varNames()[m.Intn(len(varNames()))])
		}
		l = append(l, e)
	}
	return l
}

// P1, P3, and P4 for what is not right: what is handed in, and its spare room, stays as it was; what comes out is new memory, of which no two lists share any, and the same each time; beside an error, or beside false, there is nothing.
func TestMemory(t *testing.T) {
	for _, s := range slices.Concat(signatures(), wrongSignatures()) {
		m := newMaker(180)
		room := append(make(api.Signature, 0, len(s)+3), s...)
		copy(room[len(room):cap(room)], example()[3:])
		wasRoom := slices.Clone(room[:cap(room)])
		for i := range 400 {
			l := roomyEquations(m.list(signatures()[i%4], i%3 == 0))
			was := whole(l)
			first, second := ask(room, l), ask(room, l)
			wantApart(t, "answers", first.cells(), second.cells(), cellsOfEquations(l))
			if first.told() != second.told() {
				t.Fatalf("two answers: %s; %s", first.told(), second.told())
			}
			if len(first.binds) > 0 && (!first.ok || first.e != api.OK) || first.ok && first.e != api.OK {
				t.Fatalf("not nothing: %s", first.told())
			}
			told := second.told()
			first.spoil()
			if second.told() != told {
				t.Fatalf("spoilt by another answer: %s; was %s", second.told(), told)
			}
			second.spoil()
			if now := whole(l); now != was || !slices.Equal(room[:cap(room)], wasRoom) {
				t.Fatalf("changed: %s; was %s", now, was)
			}
		}
	}
}

// TestSharedComesOutApart: terms that share memory where they come in, and a term that is put in at several places.
func TestSharedComesOutApart(t *testing.T) {
	s := example()
	in := sy(f, v("A"), sy(g, v("B")))
	pair := sy(f, in, in)
	for _, e := range []api.Equation{eq(v("X"), pair), eq(pair, v("X")), eq(pair, sy(f, v("X"), in)), eq(pair, sy(f, sy(g, in), sy(g, in)))} {
		w := step.One(s, e)
		wantApart(t, "One", cells(in.Args), cells(w.Bind.T.Args), cellsOfEquations(w.L))
	}
	for _, l := range [][]api.Equation{
		{eq(v("X"), in), eq(v("Y"), in), eq(v("Z"), pair)},
		{eq(v("X"), sy(f, v("Y"), v("Y"))), eq(v("Y"), in), eq(v("Z"), sy(h, v("X"), v("Y"), v("X")))},
		{eq(sy(f, v("X"), v("Y")), pair), eq(v("A"), in.Args[1])},
	} {
		got, ok, e := step.Free(s, l)
		if !ok || e != api.OK || len(got) < 3 {
			t.Fatalf("%s: %s, %v, %d", writtenEquations(l), writtenBinds(got), ok, e)
		}
		wantApart(t, "Free", cells(in.Args), cellsOfBinds(got))
	}
}

// P3: an answer hangs on the arguments alone, not on what was asked ahead of it or is asked at the same time.
func TestNothingIsKept(t *testing.T) {
	s := example()
	l := equations(t, "f(X,Y) = f(g(Z),Z); h(X,Y,Z) = h(W,V,a); X = X")
	other := equations(t, "X = b; Y = g(X); plus(X,a) = plus(Y,b)")
	want, wantOther := ask(s, l).told(), ask(s, other).told()
	var group sync.WaitGroup
	for range 8 {
		group.Go(func() {
			for range 100 {
				if ask(s, l).told() != want || ask(s, other).told() != wantOther {
					t.Error("another answer at the same time")
				}
			}
		})
	}
	group.Wait()
	if got := ask(s, l).told(); got != want {
		t.Errorf("behind: %s; want %s", got, want)
	}
}

// TestVariablesWithMore: P1 for variables that have arguments, of which some are the variable itself.
func TestVariablesWithMore(t *testing.T) {
	s := example()
	around := func(name string, args ...api.Term) api.Term { return api.Term{Var: name, Sym: 7, Args: args} }
	l := []api.Term{v("X"), v("Y"), around("X", v("X")), around("X", v("Y")), around("Y", v("X"), around("X", v("Y"))), around("Y", sy(f, v("X"), v("Y"))), sy(g, around("X", v("Z"))), sy(f, around("Z", v("X")), around("Y", v("X"))), around("Z", sy(plus, v("X"), v("X"))), around("Z", sy(99))}
	for _, x := range l {
		for _, y := range l {
			for _, z := range l {
				for _, w := range l {
					list := []api.Equation{eq(x, y), eq(z, w), eq(sy(f, y, z), sy(f, w, x)), eq(v("X"), v("Y"))}
					first, second := ask(s, list), ask(s, list)
					if first.told() != second.told() {
						t.Fatalf("two answers: %s; %s", first.told(), second.told())
					}
				}
			}
		}
	}
}

// deep is a term as deep as the document's bound allows.
func deep(leaf api.Term) api.Term {
	for range 1<<16 - 4 {
		leaf = sy(f, sy(a), leaf)
	}
	return leaf
}

// TestDeepTerms: P1 for terms as deep as the document's bound allows.
func TestDeepTerms(t *testing.T) {
	s := example()
	x, y := deep(v("X")), deep(sy(b))
	for _, c := range []struct {
		l    api.Term
		r    api.Term
		want api.Act
	}{{x, x, api.Done}, {x, y, api.Parts}, {v("X"), x, api.Fail}, {x, v("X"), api.Fail}, {v("X"), y, api.Set}, {sy(plus, x, y), sy(plus, y, x), api.Pure}} {
		if w := step.One(s, eq(c.l, c.r)); w.Act != c.want {
			t.Errorf("One: %d; want %d", w.Act, c.want)
		}
	}
	wantFree(t, "deep ones that end in a variable", s, []api.Equation{eq(x, y)}, []api.Bind{bind("X", sy(b))})
	wantFree(t, "the same deep ones", s, []api.Equation{eq(x, x), eq(y, y)}, nil)
	wantNone(t, "deep ones that end unlike", s, []api.Equation{eq(deep(sy(a)), y)}, api.OK)
	wantNone(t, "deep ones behind a bind", s, []api.Equation{eq(v("X"), sy(a)), eq(x, y)}, api.ErrSubstGrown)
	wantNone(t, "a variable deep in its own term", s, []api.Equation{eq(v("X"), x)}, api.OK)
	wantNone(t, "a wrong symbol deep inside", s, []api.Equation{eq(v("Y"), v("Z")), eq(x, deep(sy(99)))}, api.ErrArg)
	if l, ok, e := step.Free(s, []api.Equation{eq(y, v("X"))}); !ok || e != api.OK || len(l) != 1 || !terms.Same(l[0].T, y) {
		t.Errorf("a deep bind: %v, %d", ok, e)
	}
	wrong := v("X")
	for i := range 1<<16 - 2 {
		wrong = api.Term{Var: []string{"", "x"}[i/100%2], Sym: i%7 - 1, Args: []api.Term{wrong}}
	}
	for _, e := range []api.Equation{eq(wrong, wrong), eq(wrong, x), eq(v("X"), wrong), eq(wrong, v("Y")), eq(sy(g, wrong), sy(g, x))} {
		step.One(s, e)
		step.Free(s, []api.Equation{e, e})
	}
}

// TestLongLists: P1 for many equations and for many arguments.
func TestLongLists(t *testing.T) {
	s := api.Signature{{Name: "a", Kind: api.Free}, {Name: "w", Kind: api.Free}}
	const n = 3000
	var l []api.Equation
	var left, right []api.Term
	var want []api.Bind
	for i := range n {
		x := v("X" + strconv.Itoa(n+i))
		l = append(l, eq(x, sy(a)))
		left, right = append(left, x), append(right, sy(1, sy(a)))
		want = append(want, bind(x.Var, sy(1, sy(a))))
	}
	if got, ok, e := step.Free(s, l); !ok || e != api.OK || len(got) != n || got[n-1].Var != l[n-1].L.Var {
		t.Errorf("many equations: %d, %v, %d", len(got), ok, e)
	}
	wantFree(t, "many arguments", s, []api.Equation{eq(sy(1, left...), sy(1, right...))}, want)
	wantNone(t, "one argument fewer", s, []api.Equation{eq(sy(1, left...), sy(1, right[1:]...))}, api.OK)
	wantNone(t, "a bind ahead of many arguments", s, []api.Equation{eq(v("Y"), sy(a)), eq(sy(1, left...), sy(1, right...))}, api.ErrSubstGrown)
	wantFree(t, "much that is done", s, slices.Repeat([]api.Equation{eq(sy(1, right...), sy(1, right...))}, 100), nil)
}
