package minimise_test

import (
	"slices"
	"strconv"
	"strings"
	"sync"
	"testing"

	"amalgam/api"
	"amalgam/minimise"
)

// roomy is a term of which each list has spare room, with something in it.
func roomy(t api.Term) api.Term {
	l := make([]api.Term, 0, len(t.Args)+2)
	for _, x := range t.Args {
		l = append(l, roomy(x))
	}
	copy(l[len(l):cap(l)], []api.Term{v("Spare"), sy(plus, v("Spare"), sy(a))})
	t.Args = l
	return t
}

func roomyBinds(in []api.Bind) []api.Bind {
	l := make([]api.Bind, 0, len(in)+2)
	for _, x := range in {
		l = append(l, bind(x.Var, roomy(x.T)))
	}
	copy(l[len(l):cap(l)], []api.Bind{bind("Z", sy(a)), bind("Spare", sy(plus, v("Spare"), sy(a)))})
	return l
}

// given is all that a call is handed.
type given struct {
	s    api.Signature
	vars []string
	l    [][]api.Bind
	b    []api.Bind
}

// roomyGiven has spare room in each list.
func roomyGiven(x given) given {
	s := append(make(api.Signature, 0, len(x.s)+3), x.s...)
	copy(s[len(s):cap(s)], example()[3:])
	vars := append(make([]string, 0, len(x.vars)+2), x.vars...)
	copy(vars[len(vars):cap(vars)], []string{"Spare", "x"})
	l := make([][]api.Bind, 0, len(x.l)+2)
	for _, b := range x.l {
		l = append(l, roomyBinds(b))
	}
	copy(l[len(l):cap(l)], [][]api.Bind{{bind("X", sy(a))}, {bind("x", v("Spare"))}})
	return given{s, vars, l, roomyBinds(x.b)}
}

func writeWhole(b *strings.Builder, l []api.Term) {
	b.WriteString("<")
	for _, x := range l[:cap(l)] {
		b.WriteString(x.Var + "'" + strconv.Itoa(x.Sym))
		writeWhole(b, x.Args)
	}
	b.WriteString(">" + strconv.Itoa(len(l)))
}

func writeWholeBinds(b *strings.Builder, l []api.Bind) {
	for _, x := range l[:cap(l)] {
		b.WriteString(x.Var + " -> " + x.T.Var + "'" + strconv.Itoa(x.T.Sym))
		writeWhole(b, x.T.Args)
	}
	b.WriteString(strconv.Itoa(len(l)) + "; ")
}

// whole tells all that is handed in, spare room too.
func (x given) whole() string {
	var b strings.Builder
	for _, y := range x.s[:cap(x.s)] {
		b.WriteString(y.Name + " " + strconv.Itoa(int(y.Kind)) + " " + strconv.Itoa(y.Arity) + " " + y.Unit + "; ")
	}
	b.WriteString(strings.Join(x.vars[:cap(x.vars)], " "))
	for _, y := range x.l[:cap(x.l)] {
		writeWholeBinds(&b, y)
	}
	b.WriteString(strconv.Itoa(len(x.l)))
	writeWholeBinds(&b, x.b)
	return b.String()
}

// spoil writes on all memory of a list of terms, its spare room too.
func spoil(l []api.Term) {
	l = l[:cap(l)]
	for i, x := range l {
		spoil(x.Args)
		l[i] = api.Term{Var: "Spoilt", Sym: 66, Args: []api.Term{v("Spoilt")}}
	}
}

func spoilBinds(l []api.Bind) {
	l = l[:cap(l)]
	for i, b := range l {
		spoil(b.T.Args)
		l[i] = bind("Spoilt", sy(66, v("Spoilt")))
	}
}

func spoilAll(l [][]api.Bind) {
	l = l[:cap(l)]
	for i, b := range l {
		spoilBinds(b)
		l[i] = []api.Bind{bind("Spoilt", v("Spoilt"))}
	}
}

// cells are the addresses of all memory of a list of terms.
func cells(l []api.Term) []any {
	var all []any
	room := l[:cap(l)]
	for i := range room {
		all = append(all, &room[i])
		all = append(all, cells(room[i].Args)...)
	}
	return all
}

func cellsOfAll(l [][]api.Bind) []any {
	var all []any
	room := l[:cap(l)]
	for i := range room {
		all = append(all, &room[i])
		binds := room[i][:cap(room[i])]
		for j := range binds {
			all = append(all, &binds[j])
			all = append(all, cells(binds[j].T.Args)...)
		}
	}
	return all
}

// wantApart: no cell is there twice.
func wantApart(t *testing.T, all ...[]any) {
	t.Helper()
	seen := map[any]int{}
	for _, c := range slices.Concat(all...) {
		seen[c]++
		if seen[c] > 1 {
			t.Fatal("memory is shared")
		}
	}
}

// P3: what is handed in, and its spare room, stays as it was; what comes out is new memory each time, of which no two lists share any, and writing on it changes nothing.
func TestMemory(t *testing.T) {
	found := 0
	for i, s := range signatures() {
		m := newMaker(int64(2260 + i))
		for j := range 120 {
			names := varNames()[:2+j%8]
			x := given{s, m.some(names), m.members(s, names, 1+m.Intn(6), 3+j%8), m.binds(s, names, 5)}
			if j%10 == 0 {
				x.l = append(x.l, []api.Bind{bind("X", m.spoilt(s, 6)), bind("Y", m.spoilt(s, 6))})
			}
			in := roomyGiven(x)
			was := in.whole()
			left, e := minimise.Minimise(in.s, in.vars, in.l)
			second, no := minimise.Minimise(in.s, in.vars, in.l)
			if e != no || toldAll(left) != toldAll(second) {
				t.Fatalf("two answers: %s, %d; %s, %d", toldAll(left), e, toldAll(second), no)
			}
			wantMinimise(t, x.s, x.vars, x.l, left, e)
			at, is, coversE := minimise.Covers(in.s, in.vars, in.l, in.b)
			wantCovers(t, x.s, x.vars, x.l, x.b, at, is, coversE)
			found += len(left)
			wantApart(t, cellsOfAll(left), cellsOfAll(second), cellsOfAll(in.l), cellsOfAll([][]api.Bind{in.b}))
			text := toldAll(second)
			spoilAll(left)
			if toldAll(second) != text {
				t.Fatalf("spoilt by another answer: %s; was %s", toldAll(second), text)
			}
			if in.whole() != was {
				t.Fatalf("changed: %s; was %s", in.whole(), was)
			}
			// What is written on later is not kept: an answer stays as it was.
			spoilAll(in.l)
			clear(in.vars)
			if toldAll(second) != text {
				t.Fatalf("%s; was %s", toldAll(second), text)
			}
		}
	}
	if found < 400 {
		t.Errorf("only %d members", found)
	}
}

// TestSharedComesOutApart: terms, and members, that share memory where they come in.
func TestSharedComesOutApart(t *testing.T) {
	in := sy(f, sy(a), sy(times, v("C"), sy(a)))
	room := []api.Bind{bind("X", in), bind("Y", in), bind("Z", sy(plus, in, in, in))}
	l := [][]api.Bind{room[:1], {bind("X", sy(g, in)), bind("Y", sy(g, in))}, room[1:2], room[2:], {bind("Z", in)}}
	left, e := minimise.Minimise(example(), list("X Y Z"), l)
	if len(left) != 5 || e != api.OK {
		t.Fatalf("%s, %d", toldAll(left), e)
	}
	wantApart(t, cellsOfAll(left), cells(in.Args))
	if told(room) != told([]api.Bind{bind("X", in), bind("Y", in), bind("Z", sy(plus, in, in, in))}) {
		t.Errorf("changed: %s", told(room))
	}
}

// P3: what a call answers does not hang on others at the same time.
func TestAtTheSameTime(t *testing.T) {
	s, vars := example(), list("X Y")
	var group sync.WaitGroup
	for _, lines := range []string{
		"X -> a, Y -> a;X -> Y;X -> one",
		"X -> plus(Y,Z);X -> plus(a,a);",
		"X -> times(A,B), Y -> times(B,C);X -> a, Y -> a",
		many + ";X -> a",
	} {
		l, b := members(t, lines), binds(t, "X -> a, Y -> a")
		left, e := minimise.Minimise(s, vars, l)
		at, is, coversE := minimise.Covers(s, vars, l, b)
		for range 2 {
			group.Go(func() {
				for range 20 {
					wantMinimise(t, s, vars, l, left, e)
					wantCovers(t, s, vars, l, b, at, is, coversE)
				}
			})
		}
	}
	group.Wait()
}

// P1 and P2: of anything each call ends, without a panic; with an error, or false, there is nothing else.
func TestAnything(t *testing.T) {
	m := newMaker(2270)
	var all []api.Signature
	for _, x := range wrongSignatures() {
		all = append(all, x.s)
	}
	all = append(all, signatures()...)
	all = append(all, nil, api.Signature{{}}, make(api.Signature, 16), make(api.Signature, 100000))
	wrong := wrongVars()[2:]
	for _, s := range all {
		for range 100 {
			var l [][]api.Bind
			for range 1 + m.Intn(4) {
				var b []api.Bind
				for range m.Intn(3) {
					b = append(b, bind(varNames()[m.Intn(4)], m.spoilt(example(), 1+m.Intn(9))))
				}
				l = append(l, b)
			}
			vars := m.some(varNames())
			if m.Intn(4) == 0 {
				vars = append(vars, wrong[m.Intn(len(wrong))]...)
			}
			if left, e := minimise.Minimise(s, vars, l[1:]); e != api.OK && len(left) > 0 {
				t.Fatalf("%s and an error, %d", toldAll(left), e)
			}
			if at, is, e := minimise.Covers(s, vars, l[1:], l[0]); (e != api.OK || !is) && (is || at != 0) {
				t.Fatalf("%d, %v and an error, %d", at, is, e)
			}
		}
	}
}

// TestDeepTerms: P1 for terms as deep as the document's bound allows, right ones and wrong ones.
func TestDeepTerms(t *testing.T) {
	deep, wrong := v("Y"), v("Y")
	for i := range 1<<16 - 7 {
		deep = sy(f, sy(a), deep)
		wrong = api.Term{Var: []string{"", "x"}[i/100%2], Sym: i%7 - 1, Args: []api.Term{wrong}}
	}
	for _, x := range []api.Term{deep, wrong} {
		b := []api.Bind{bind("X", x)}
		for _, l := range [][][]api.Bind{{b}, {nil, b}, {b, nil, b}} {
			for _, vars := range []string{"", "X", "Y"} {
				if left, e := minimise.Minimise(example(), list(vars), l); len(left) > 0 || e != api.ErrSubstGrown {
					t.Errorf("%d members, %d", len(left), e)
				}
				if at, is, e := minimise.Covers(example(), list(vars), l, nil); at != 0 || is || e != api.ErrSubstGrown {
					t.Errorf("%d, %v, %d", at, is, e)
				}
			}
		}
		if at, is, e := minimise.Covers(example(), list("X"), [][]api.Bind{nil}, b); at != 0 || is || e != api.ErrSubstGrown {
			t.Errorf("%d, %v, %d", at, is, e)
		}
	}
}

// TestManyBinds: P1 for a hundred members with many binds, of which few are asked for: each is checked once, not for each other one.
func TestManyBinds(t *testing.T) {
	s := example()
	var l [][]api.Bind
	for i := range 100 {
		var b []api.Bind
		for j := range 5000 {
			b = append(b, bind("X"+strconv.Itoa(10000+j), v("Y")))
		}
		b[17].T, b[4321].T = tower(1+i/10, sy(a)), tower(1+i%10, sy(a))
		l = append(l, b)
	}
	vars := []string{l[0][4321].Var, l[0][17].Var, l[0][999].Var, "Z"}
	left, e := minimise.Minimise(s, vars, l)
	if len(left) != 100 || e != api.OK {
		t.Errorf("%d, %d", len(left), e)
	}
	for i := range left {
		if len(left[i]) != 5000 || told(left[i]) != told(l[i]) {
			t.Errorf("member %d", i)
		}
	}
	left, e = minimise.Minimise(s, vars[:1], l)
	if len(left) != 10 || e != api.OK || told(left[9]) != told(l[9]) {
		t.Errorf("%d, %d", len(left), e)
	}
	wantCovers(t, s, vars, l, l[77], 77, true, api.OK)
	wantCovers(t, s, vars[1:], l, l[77], 70, true, api.OK)
	wantCovers(t, s, vars[:1], l, l[77], 7, true, api.OK)
	// Each bind is checked, whether it is asked for or not.
	l[99][4999].T = v(l[99][4999].Var)
	wantError(t, s, vars, l, api.ErrSubstVar)
}

// TestLargeMembers: as many variables as there may be.
func TestLargeMembers(t *testing.T) {
	s, vars := example(), names80()
	var l [][]api.Bind
	for i := range 5 {
		var b []api.Bind
		for j, name := range slices.Sorted(slices.Values(vars)) {
			b = append(b, bind(name, tower(1+i+j, v("X"))))
		}
		l = append(l, b)
	}
	wantMinimise(t, s, vars, l, l[:1], api.OK)
	slices.Reverse(l)
	wantMinimise(t, s, vars, l, l[4:], api.OK)
	wantCovers(t, s, vars, l, l[2], 2, true, api.OK)
	l[4][0].T = sy(a)
	wantMinimise(t, s, vars, l, l[3:], api.OK)
}
