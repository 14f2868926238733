package solve_test

import (
	"slices"
	"strconv"
	"strings"
	"sync"
	"testing"

	"amalgam/api"
	"amalgam/solve"
)

// roomy is a term of which each list has spare room, with something in it.
func roomy(t api.Term) api.Term {
	l := make([]api.Term, 0, len(t.Args)+2)
	for _, x := range t.Args {
		l = append(l, roomy(x))
	}
	copy(l[len(l):cap(l)], []api.Term{v("Spare"), sy(plus, v("Spare"), sy(a))})
	t.Args = l
	return t
}

func roomyEquations(in []api.Equation) []api.Equation {
	l := make([]api.Equation, 0, len(in)+2)
	for _, x := range in {
		l = append(l, eq(roomy(x.L), roomy(x.R)))
	}
	copy(l[len(l):cap(l)], []api.Equation{eq(v("X"), sy(a)), eq(sy(plus, v("Spare"), sy(a)), v("Spare"))})
	return l
}

func roomySignature(s api.Signature) api.Signature {
	room := append(make(api.Signature, 0, len(s)+3), s...)
	copy(room[len(room):cap(room)], example()[3:])
	return room
}

// whole tells equations with all their spare room.
func whole(l []api.Equation) string {
	var b strings.Builder
	for _, q := range l[:cap(l)] {
		writeWhole(&b, q.L)
		writeWhole(&b, q.R)
	}
	return b.String() + strconv.Itoa(len(l))
}

func writeWhole(b *strings.Builder, t api.Term) {
	b.WriteString(t.Var + "'" + strconv.Itoa(t.Sym) + "<")
	for _, x := range t.Args[:cap(t.Args)] {
		writeWhole(b, x)
	}
	b.WriteString(">" + strconv.Itoa(len(t.Args)))
}

// spoil writes on all memory of a list of terms, its spare room too.
func spoil(l []api.Term) {
	l = l[:cap(l)]
	for i, x := range l {
		spoil(x.Args)
		l[i] = api.Term{Var: "Spoilt", Sym: 66, Args: []api.Term{v("Spoilt")}}
	}
}

func spoilEquations(l []api.Equation) {
	l = l[:cap(l)]
	for i, q := range l {
		spoil(q.L.Args)
		spoil(q.R.Args)
		l[i] = eq(sy(66, v("Spoilt")), v("Spoilt"))
	}
}

func spoilBinds(l []api.Bind) {
	l = l[:cap(l)]
	for i, b := range l {
		spoil(b.T.Args)
		l[i] = bind("Spoilt", sy(66, v("Spoilt")))
	}
}

// answered is all that comes out of a machine at one time.
type answered struct {
	top   api.State
	forms [][]api.Bind
}

func ask(m *solve.Machine) answered {
	x, _ := m.Top()
	l, _ := m.Answer()
	return answered{top: x, forms: l}
}

func (x answered) spoil() {
	spoilEquations(x.top.Equations)
	spoilBinds(x.top.Binds)
	l := x.forms[:cap(x.forms)]
	for i, form := range l {
		spoilBinds(form)
		l[i] = []api.Bind{bind("Spoilt", v("Spoilt"))}
	}
}

// cells are the addresses of all memory of a list of terms.
func cells(l []api.Term) []any {
	var all []any
	room := l[:cap(l)]
	for i := range room {
		all = append(all, &room[i])
		all = append(all, cells(room[i].Args)...)
	}
	return all
}

func cellsOfEquations(l []api.Equation) []any {
	var all []any
	room := l[:cap(l)]
	for i := range room {
		all = append(all, &room[i])
		all = append(all, cells(room[i].L.Args)...)
		all = append(all, cells(room[i].R.Args)...)
	}
	return all
}

func cellsOfBinds(l []api.Bind) []any {
	var all []any
	room := l[:cap(l)]
	for i := range room {
		all = append(all, &room[i])
		all = append(all, cells(room[i].T.Args)...)
	}
	return all
}

func (x answered) cells() []any {
	all := append(cellsOfEquations(x.top.Equations), cellsOfBinds(x.top.Binds)...)
	room := x.forms[:cap(x.forms)]
	for i := range room {
		all = append(all, &room[i])
		all = append(all, cellsOfBinds(room[i])...)
	}
	return all
}

// wantApart: no cell is there twice.
func wantApart(t *testing.T, what string, all ...[]any) {
	t.Helper()
	seen := map[any]int{}
	for _, c := range slices.Concat(all...) {
		seen[c]++
		if seen[c] > 1 {
			t.Fatalf("%s: memory is shared", what)
		}
	}
}

// P3: what is handed in, and its spare room, stays as it was, and is not kept; what comes out is new memory each time, of which no two lists share any, and writing on it changes nothing.
func TestMemory(t *testing.T) {
	found := 0
	for i, s := range signatures() {
		m := newMaker(int64(600 + i))
		for j := range 120 {
			l := append(m.equations(s, 2, 8, 4), m.sums(s, 4))
			in, room := roomyEquations(l), roomySignature(s)
			was, wasRoom := whole(in), slices.Clone(room[:cap(room)])
			calm, wild := started(t, s, l), started(t, room, in)
			kept := cellsOfEquations(in)
			if whole(in) != was || !slices.Equal(room[:cap(room)], wasRoom) {
				t.Fatalf("changed: %s; was %s", whole(in), was)
			}
			if j%2 == 0 {
				// What was handed in is written on while the search goes on.
				spoilEquations(in)
				clear(room[:cap(room)])
			}
			for range enough {
				first, second := ask(wild), ask(wild)
				wantApart(t, "answers", first.cells(), second.cells(), kept)
				first.spoil()
				second.spoil()
				if look(wild) != look(calm) {
					t.Fatalf("%s: %s; want %s", toldEquations(l), look(wild), look(calm))
				}
				if made, _ := calm.Made(); made > 300 || calm.Step() {
					break
				}
				wild.Step()
			}
			wild.Step()
			first, second := ask(wild), ask(wild)
			wantApart(t, "answers", first.cells(), second.cells(), kept)
			found += len(first.forms)
			first.spoil()
			second.spoil()
			if made, _ := calm.Made(); made <= 300 && look(wild) != look(calm) {
				t.Fatalf("%s: %s; want %s", toldEquations(l), look(wild), look(calm))
			}
			if j%2 > 0 && whole(in) != was {
				t.Fatalf("changed by the steps: %s; was %s", whole(in), was)
			}
		}
	}
	if found < 100 {
		t.Errorf("only %d forms", found)
	}
}

// TestMemoryOfSolve: the same of the whole search, of right and of wrong arguments.
func TestMemoryOfSolve(t *testing.T) {
	for i, s := range append(signatures(), wrongSignatures()...) {
		m := newMaker(int64(610 + i))
		by := signatures()[i%3]
		for j := range 60 {
			l := append(m.equations(by, 2, 8, 4), m.sums(by, 4))
			if j%2 == 0 {
				l = append(l, eq(m.spoilt(by, 6), m.spoilt(by, 6)))
			}
			in, room := roomyEquations(l), roomySignature(s)
			was, wasRoom := whole(in), slices.Clone(room[:cap(room)])
			one, e := solve.Solve(room, in)
			other, no := solve.Solve(room, in)
			if e != no || toldForms(one) != toldForms(other) || e != api.OK && len(one) > 0 {
				t.Fatalf("two answers: %s, %d; %s, %d", toldForms(one), e, toldForms(other), no)
			}
			wantApart(t, "answers", answered{forms: one}.cells(), answered{forms: other}.cells(), cellsOfEquations(in))
			text := toldForms(other)
			answered{forms: one}.spoil()
			if toldForms(other) != text {
				t.Fatalf("spoilt by another answer: %s; was %s", toldForms(other), text)
			}
			answered{forms: other}.spoil()
			if whole(in) != was || !slices.Equal(room[:cap(room)], wasRoom) {
				t.Fatalf("changed: %s; was %s", whole(in), was)
			}
		}
	}
}

// TestSharedComesOutApart: terms that share memory where they come in.
func TestSharedComesOutApart(t *testing.T) {
	in := sy(f, v("X"), sy(plus, v("Y"), sy(a)))
	pair := sy(f, in, in)
	l := []api.Equation{eq(v("Z"), pair), eq(pair, sy(f, in, v("W"))), eq(in, v("W"))}
	m := started(t, example(), l)
	for range enough {
		wantApart(t, "answers", ask(m).cells(), cells(in.Args))
		if m.Step() {
			break
		}
	}
	wantApart(t, "answers", ask(m).cells(), cells(in.Args))
	if found, e := m.Answer(); len(found) != 1 || e != api.OK {
		t.Errorf("%s, %d", toldForms(found), e)
	}
}

// P3: what a machine tells hangs on its own steps alone, not on other machines, ahead of it or at the same time.
func TestMachinesAreApart(t *testing.T) {
	lines := []string{"plus(X,Y) = plus(Z,a)", "plus(X,a) = plus(Y,Y); Y = plus(Z,b)", "times(X,a) = times(Y,one)", "f(X,a) = f(a,Y)", "plus(X,Y) = plus(a,b)", "plus(A,B,C,D,E) = plus(F,G,H,I,J)"}
	var wants []string
	var l []*solve.Machine
	for _, line := range lines {
		m := machine(t, line)
		run(t, m)
		wants = append(wants, look(m))
		l = append(l, machine(t, line))
	}
	for range enough {
		through := 0
		for _, m := range l {
			if m.Step() {
				through++
			}
		}
		if through == len(l) {
			break
		}
	}
	for i, m := range l {
		if look(m) != wants[i] {
			t.Errorf("%s, side by side: %s; want %s", lines[i], look(m), wants[i])
		}
	}
	var group sync.WaitGroup
	for i, line := range lines {
		in := equations(t, line)
		for range 2 {
			group.Go(func() {
				for range 20 {
					m, e := solve.New(example(), in)
					if e != api.OK {
						t.Error(e)
						return
					}
					for range enough {
						if m.Step() {
							break
						}
					}
					if look(m) != wants[i] {
						t.Errorf("%s, at the same time: %s; want %s", line, look(m), wants[i])
					}
				}
			})
		}
	}
	group.Wait()
}

// deep is a term as deep as the document's bound allows.
func deep(leaf api.Term) api.Term {
	for range 1<<16 - 6 {
		leaf = sy(f, sy(a), leaf)
	}
	return leaf
}

// TestDeepTerms: P1 for terms as deep as the document's bound allows, right ones and wrong ones.
func TestDeepTerms(t *testing.T) {
	wantNone(t, "a deep one", example(), []api.Equation{eq(deep(v("X")), sy(a))}, api.ErrTermsLong)
	wantNone(t, "a deep one", example(), []api.Equation{eq(sy(a), sy(a)), eq(v("X"), deep(v("_1")))}, api.ErrTermsLong)
	wrong := v("X")
	for i := range 1<<16 - 4 {
		wrong = api.Term{Var: []string{"", "x"}[i/100%2], Sym: i%7 - 1, Args: []api.Term{wrong}}
	}
	wantNone(t, "a wrong one", example(), []api.Equation{eq(wrong, wrong)}, api.ErrTermsLong)
}

// TestWideLists: P1 for many equations, many arguments.
func TestWideLists(t *testing.T) {
	const n = 50000
	l := slices.Repeat([]api.Equation{eq(v("X"), v("Y"))}, n)
	m := started(t, example(), l)
	wantMade(t, "many", m, 1, 1)
	if x, _ := m.Top(); len(x.Equations) != n {
		t.Errorf("%d equations", len(x.Equations))
	}
	wantStep(t, "many", m, false)
	if x, _ := m.Top(); len(x.Equations) != n-1 || len(x.Binds) != 1 || x.Equations[n-2].R.Var != "X" {
		t.Errorf("%d equations, %d binds", len(x.Equations), len(x.Binds))
	}
	l[n-1].R = v("_3")
	wantNone(t, "the last one is wrong", example(), l, api.ErrSolveName)
	wantNone(t, "many arguments", example(), []api.Equation{eq(sy(plus, many(n, v("X"))...), v("X"))}, api.ErrTermsLong)
}
