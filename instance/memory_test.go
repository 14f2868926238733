package instance_test

import (
	"slices"
	"strconv"
	"strings"
	"sync"
	"testing"

	"amalgam/api"
	"amalgam/instance"
)

// roomy is a term of which each list has spare room, with something in it.
func roomy(t api.Term) api.Term {
	l := make([]api.Term, 0, len(t.Args)+2)
	for _, x := range t.Args {
		l = append(l, roomy(x))
	}
	copy(l[len(l):cap(l)], []api.Term{v("Spare"), sy(plus, v("Spare"), sy(a))})
	t.Args = l
	return t
}

func roomyBinds(in []api.Bind) []api.Bind {
	l := make([]api.Bind, 0, len(in)+2)
	for _, x := range in {
		l = append(l, bind(x.Var, roomy(x.T)))
	}
	copy(l[len(l):cap(l)], []api.Bind{bind("Z", sy(a)), bind("Spare", sy(plus, v("Spare"), sy(a)))})
	return l
}

func roomyVars(in []string) []string {
	l := append(make([]string, 0, len(in)+2), in...)
	copy(l[len(l):cap(l)], []string{"Spare", "x"})
	return l
}

func roomySignature(s api.Signature) api.Signature {
	room := append(make(api.Signature, 0, len(s)+3), s...)
	copy(room[len(room):cap(room)], example()[3:])
	return room
}

// whole tells a list of terms with all its spare room.
func whole(l []api.Term) string {
	var b strings.Builder
	writeWhole(&b, l)
	return b.String()
}

func writeWhole(b *strings.Builder, l []api.Term) {
	b.WriteString("<")
	for _, x := range l[:cap(l)] {
		b.WriteString(x.Var + "'" + strconv.Itoa(x.Sym))
		writeWhole(b, x.Args)
	}
	b.WriteString(">" + strconv.Itoa(len(l)))
}

func wholeBinds(l []api.Bind) string {
	var b strings.Builder
	for _, x := range l[:cap(l)] {
		b.WriteString(x.Var + " -> " + x.T.Var + "'" + strconv.Itoa(x.T.Sym))
		writeWhole(&b, x.T.Args)
	}
	return b.String() + strconv.Itoa(len(l))
}

// wholeQuestion tells all that is handed in with it, spare room too.
func wholeQuestion(s api.Signature, x question) string {
	var b strings.Builder
	for _, y := range s[:cap(s)] {
		b.WriteString(y.Name + " " + strconv.Itoa(int(y.Kind)) + " " + strconv.Itoa(y.Arity) + " " + y.Unit + "; ")
	}
	return b.String() + strings.Join(x.vars[:cap(x.vars)], " ") + wholeBinds(x.a) + wholeBinds(x.b)
}

// spoil writes on all memory of a list of terms, its spare room too.
func spoil(l []api.Term) {
	l = l[:cap(l)]
	for i, x := range l {
		spoil(x.Args)
		l[i] = api.Term{Var: "Spoilt", Sym: 66, Args: []api.Term{v("Spoilt")}}
	}
}

func spoilBinds(l []api.Bind) {
	l = l[:cap(l)]
	for i, b := range l {
		spoil(b.T.Args)
		l[i] = bind("Spoilt", sy(66, v("Spoilt")))
	}
}

// cells are the addresses of all memory of a list of terms.
func cells(l []api.Term) []any {
	var all []any
	room := l[:cap(l)]
	for i := range room {
		all = append(all, &room[i])
		all = append(all, cells(room[i].Args)...)
	}
	return all
}

func cellsOfBinds(l []api.Bind) []any {
	var all []any
	room := l[:cap(l)]
	for i := range room {
		all = append(all, &room[i])
		all = append(all, cells(room[i].T.Args)...)
	}
	return all
}

// wantApart: no cell is there twice.
func wantApart(t *testing.T, what string, all ...[]any) {
	t.Helper()
	seen := map[any]int{}
	for _, c := range slices.Concat(all...) {
		seen[c]++
		if seen[c] > 1 {
			t.Fatalf("%s: memory is shared", what)
		}
	}
}

// P3: what is handed in, and its spare room, stays as it was; what comes out is new memory each time, of which no two lists share any, and writing on it changes nothing.
func TestMemory(t *testing.T) {
	found := 0
	for i, s := range signatures() {
		m := newMaker(int64(1190 + i))
		for j := range 400 {
			x := m.question(s, varNames()[:2+j%8], 3+j%8)
			if j%10 == 0 {
				x.a = []api.Bind{bind("X", m.spoilt(s, 6)), bind("Y", m.spoilt(s, 6))}
			}
			in, room := question{roomyVars(x.vars), roomyBinds(x.a), roomyBinds(x.b)}, roomySignature(s)
			was := wholeQuestion(room, in)
			r, is, e := instance.Is(room, in.vars, in.a, in.b)
			second, isSecond, no := instance.Is(room, in.vars, in.a, in.b)
			if e != no || is != isSecond || told(r) != told(second) {
				t.Fatalf("two answers: %s, %v, %d; %s, %v, %d", told(r), is, e, told(second), isSecond, no)
			}
			wantIs(t, s, x, r, is, e)
			alike, alikeE := instance.Alike(room, in.vars, in.a, in.b)
			wantAlike(t, s, x, alike, alikeE)
			found += len(r)
			wantApart(t, x.String(), cellsOfBinds(r), cellsOfBinds(second), cellsOfBinds(in.a), cellsOfBinds(in.b))
			text := told(second)
			spoilBinds(r)
			if told(second) != text {
				t.Fatalf("spoilt by another answer: %s; was %s", told(second), text)
			}
			spoilBinds(second)
			if wholeQuestion(room, in) != was {
				t.Fatalf("changed: %s; was %s", wholeQuestion(room, in), was)
			}
			// What is written on later is not kept: an answer stays as it was.
			r, is, e = instance.Is(room, in.vars, in.a, in.b)
			text = told(r)
			spoilBinds(in.a)
			spoilBinds(in.b)
			clear(in.vars)
			if told(r) != text || is != isSecond || e != no {
				t.Fatalf("%s; was %s", told(r), text)
			}
		}
	}
	if found < 1000 {
		t.Errorf("only %d binds", found)
	}
}

// TestSharedComesOutApart: terms that share memory where they come in, and one that comes out more than once.
func TestSharedComesOutApart(t *testing.T) {
	in := sy(f, sy(a), sy(times, v("C"), sy(a)))
	same := []api.Bind{bind("X", in), bind("Y", in), bind("Z", in)}
	for _, x := range []question{
		{list("X Y Z"), nil, same},
		{list("X Y Z"), binds(t, "X -> f(V,W), Y -> f(A,B)"), same},
		{list("X Y"), []api.Bind{bind("X", sy(plus, v("V"), v("W")))}, []api.Bind{bind("X", sy(plus, in, in, in)), bind("Y", in)}},
		{list("X Y Z"), same, same},
	} {
		r, is, e := instance.Is(example(), x.vars, x.a, x.b)
		if !is || e != api.OK {
			t.Errorf("%v: %v, %d", x, is, e)
		}
		wantApart(t, x.String(), cellsOfBinds(r), cells(in.Args))
	}
}

// P3: what a call answers does not hang on others at the same time.
func TestAtTheSameTime(t *testing.T) {
	s := example()
	var group sync.WaitGroup
	for _, line := range []struct{ a, b string }{
		{"X -> plus(Y,Z)", "X -> plus(a,a,one), Y -> a"},
		{"X -> times(A,B), Y -> times(B,C)", "X -> a, Y -> a"},
		{"X -> f(A,f(B,f(C,f(D,E))))", "X -> f(_1,f(_2,f(_3,f(_4,_5))))"},
		{"X -> plus(A,B)", "X -> plus(a,a,a,a,a,a,a)"},
		{"X -> a", "X -> b"},
	} {
		x := question{list("X Y"), binds(t, line.a), binds(t, line.b)}
		want, wantYes, wantE := instance.Is(s, x.vars, x.a, x.b)
		alike, alikeE := instance.Alike(s, x.vars, x.a, x.b)
		for range 2 {
			group.Go(func() {
				for range 20 {
					wantIs(t, s, x, want, wantYes, wantE)
					wantAlike(t, s, x, alike, alikeE)
				}
			})
		}
	}
	group.Wait()
}

// P1: of anything each call ends, without a panic; with an error, or false, there is nothing else.
func TestAnything(t *testing.T) {
	m := newMaker(1200)
	var all []api.Signature
	for _, x := range wrongSignatures() {
		all = append(all, x.s)
	}
	all = append(all, signatures()...)
	all = append(all, nil, api.Signature{{}}, make(api.Signature, 16), make(api.Signature, 100000))
	wrong := wrongVars()[3:]
	for _, s := range all {
		for range 150 {
			var x question
			for _, l := range []*[]api.Bind{&x.a, &x.b} {
				for range m.Intn(4) {
					*l = append(*l, bind(varNames()[m.Intn(4)], m.spoilt(example(), 1+m.Intn(9))))
				}
			}
			x.vars = slices.Concat(m.some(varNames()), wrong[m.Intn(len(wrong))])
			if m.Intn(3) > 0 {
				x.vars = m.some(varNames())
			}
			if r, is, e := instance.Is(s, x.vars, x.a, x.b); (e != api.OK || !is) && (is || len(r) > 0) {
				t.Fatalf("%s, %v and an error, %d", told(r), is, e)
			}
			if is, e := instance.Alike(s, x.vars, x.a, x.b); e != api.OK && is {
				t.Fatalf("true and an error, %d", e)
			}
		}
	}
}

// TestDeepTerms: P1 for terms as deep as the document's bound allows, right ones and wrong ones.
func TestDeepTerms(t *testing.T) {
	deep, wrong := v("Y"), v("Y")
	for i := range 1<<16 - 6 {
		deep = sy(f, sy(a), deep)
		wrong = api.Term{Var: []string{"", "x"}[i/100%2], Sym: i%7 - 1, Args: []api.Term{wrong}}
	}
	for _, x := range []api.Term{deep, wrong} {
		l := []api.Bind{bind("X", x)}
		for _, y := range []question{{list("X"), l, nil}, {list("X"), nil, l}, {nil, l, l}} {
			if r, is, e := instance.Is(example(), y.vars, y.a, y.b); is || len(r) > 0 || e != api.ErrSubstGrown {
				t.Errorf("%v, %d", is, e)
			}
			if is, e := instance.Alike(example(), y.vars, y.a, y.b); is || e != api.ErrSubstGrown {
				t.Errorf("Alike: %v, %d", is, e)
			}
		}
	}
}

// TestManyBinds: P1 for many binds, of which few are asked for.
func TestManyBinds(t *testing.T) {
	var l, k []api.Bind
	for i := range 200000 {
		name := "X" + strconv.Itoa(1000000+i)
		l, k = append(l, bind(name, v("Y"))), append(k, bind(name, sy(a)))
	}
	var vars []string
	for i := range 80 {
		vars = append(vars, l[i*2345].Var)
	}
	wantIs(t, example(), question{vars, l, k}, binds(t, "Y -> a"), true, api.OK)
	wantAlike(t, example(), question{vars, l, k}, false, api.OK)
	wantError(t, example(), question{append(vars, vars[79]), l, k}, api.ErrInstanceVar)
	l = append(l, bind("X", sy(a)))
	wantError(t, example(), question{vars[:1], l, nil}, api.ErrSubstVar)
}

// TestLargeTerms: as many variables and nodes as there may be, each under a name of its own.
func TestLargeTerms(t *testing.T) {
	s := example()
	x := question{vars: names80()[:50]}
	var names []string
	for i, name := range slices.Sorted(slices.Values(x.vars)) {
		var l []string
		for j := range 200 {
			l = append(l, "Y"+strconv.Itoa(1000*i+j))
		}
		names = append(names, l...)
		x.a = append(x.a, bind(name, row(l)))
		x.b = append(x.b, bind(name, row(numbered(1+i*200, 200))))
	}
	r, is, e := instance.Is(s, x.vars, x.a, x.b)
	if !is || e != api.OK || len(r) != len(names) {
		t.Fatalf("%d binds, %v, %d", len(r), is, e)
	}
	for _, y := range r {
		at := slices.Index(names, y.Var)
		if want := "_" + strconv.Itoa(1+at); y.T.Var != want || at < 0 {
			t.Fatalf("%s -> %s; want %s", y.Var, y.T.Var, want)
		}
	}
	wantAlike(t, s, x, true, api.OK)
	// All eighty are more states than a walk may make.
	x = question{vars: names80()}
	for _, name := range slices.Sorted(slices.Values(x.vars)) {
		x.a = append(x.a, bind(name, tower(400, v("X"))))
	}
	wantIs(t, s, question{x.vars, x.a, x.a}, nil, false, api.ErrTooMany)
	wantIs(t, s, question{x.vars, nil, x.a}, x.a, true, api.OK)
}
