package subst_test

import (
	"math"
	"slices"
	"strconv"
	"strings"
	"sync"
	"testing"

	"amalgam/api"
	"amalgam/subst"
	"amalgam/terms"
)

// roomy is a term of which each list has spare room, with something in it.
func roomy(t api.Term) api.Term {
	l := make([]api.Term, 0, len(t.Args)+2)
	for _, x := range t.Args {
		l = append(l, roomy(x))
	}
	copy(l[len(l):cap(l)], []api.Term{v("Spare"), sy(plus, v("Spare"), sy(a))})
	t.Args = l
	return t
}

func roomyBinds(in []api.Bind) []api.Bind {
	l := make([]api.Bind, 0, len(in)+2)
	for _, x := range in {
		l = append(l, bind(x.Var, roomy(x.T)))
	}
	copy(l[len(l):cap(l)], []api.Bind{bind("X", sy(a)), bind("Spare", sy(plus, v("Spare"), sy(a)))})
	return l
}

// whole tells a term with its spare room.
func whole(t api.Term) string {
	var b strings.Builder
	writeWhole(&b, t)
	return b.String()
}

func writeWhole(b *strings.Builder, t api.Term) {
	b.WriteString(t.Var + "'" + strconv.Itoa(t.Sym) + "<")
	for _, x := range t.Args[:cap(t.Args)] {
		writeWhole(b, x)
	}
	b.WriteString(">")
}

func wholeBinds(l []api.Bind) string {
	var b strings.Builder
	for _, x := range l[:cap(l)] {
		b.WriteString(x.Var + " -> " + whole(x.T) + "; ")
	}
	return b.String()
}

// spoil writes on all memory of a list of terms, its spare room too.
func spoil(l []api.Term) {
	l = l[:cap(l)]
	for i, x := range l {
		spoil(x.Args)
		l[i] = api.Term{Var: "Spoilt", Sym: 66, Args: []api.Term{v("Spoilt")}}
	}
}

func spoilBinds(l []api.Bind) {
	l = l[:cap(l)]
	for i, x := range l {
		spoil(x.T.Args)
		l[i] = bind("Spoilt", sy(66, v("Spoilt")))
	}
}

// cells are the addresses of all memory of a list of terms.
func cells(l []api.Term) []any {
	var all []any
	room := l[:cap(l)]
	for i := range room {
		all = append(all, &room[i])
		all = append(all, cells(room[i].Args)...)
	}
	return all
}

func cellsOfBinds(l []api.Bind) []any {
	var all []any
	room := l[:cap(l)]
	for i := range room {
		all = append(all, &room[i])
		all = append(all, cells(room[i].T.Args)...)
	}
	return all
}

// wantApart: no cell is there twice.
func wantApart(t *testing.T, what string, all ...[]any) {
	t.Helper()
	seen := map[any]int{}
	for _, c := range slices.Concat(all...) {
		seen[c]++
		if seen[c] > 1 {
			t.Fatalf("%s: memory is shared", what)
		}
	}
}

// spoilt makes a term of which some nodes are wrong.
func (m maker) spoilt(s api.Signature, n int) api.Term {
	t := m.right(s, n)
	for range m.Intn(4) {
		at := &t
		for len(at.Args) > 0 && m.Intn(4) > 0 {
			at = &at.Args[m.Intn(len(at.Args))]
		}
		switch m.Intn(6) {
		case 0:
			at.Var = []string{"X", "x", "", "_0", "Abcdefghijklm"}[m.Intn(5)]
		case 1:
			at.Sym = []int{-1, 0, 1, 4, 5, 99, math.MinInt, math.MaxInt}[m.Intn(8)]
		case 2:
			at.Args = at.Args[:m.Intn(len(at.Args)+1)]
		default:
			at.Args = slices.Insert(slices.Clone(at.Args), m.Intn(len(at.Args)+1), m.right(s, 3))
		}
	}
	return t
}

// spoiltBinds are the binds with some faults.
func (m maker) spoiltBinds(s api.Signature, b []api.Bind) []api.Bind {
	for range 1 + m.Intn(2) {
		if len(b) == 0 {
			break
		}
		i := m.Intn(len(b))
		switch m.Intn(6) {
		case 0:
			b[i].Var = []string{"", "x", "_0", "X", "Z", "_", "Abcdefghijklm"}[m.Intn(7)]
		case 1:
			b[i].T = v(b[i].Var)
		case 2:
			b[i].T = sy(m.Intn(len(s)), slices.Repeat([]api.Term{m.right(s, 3)}, 390+m.Intn(20))...)
		case 3:
			b[i].T = m.right(s, 12)
		case 4:
			b = slices.Insert(b, i, b[m.Intn(len(b))])
		default:
			b[i].T = m.spoilt(s, 12)
		}
	}
	return b
}

// wrongSignatures are such that sig's Check refuses.
func wrongSignatures() []api.Signature {
	return []api.Signature{
		nil,
		{},
		exampleSignature()[:1],
		{{}, {}, {}, {}, {}},
		{{Kind: api.AC}, {Kind: api.ACU}, {Kind: 4}, {Kind: -1}, {Kind: math.MaxInt}, {Kind: math.MinInt}},
		{{Name: "u", Kind: api.ACU, Unit: "u"}, {Name: "v", Kind: api.ACU, Unit: "w"}, {Name: "w", Kind: api.ACU, Unit: "v"}, {Name: "z", Kind: api.ACU, Unit: "none"}},
		{{Name: "u", Kind: api.AC, Arity: 7}, {Name: "v", Kind: api.ACU, Unit: "u"}, {Name: "f", Kind: api.Free, Arity: -3}, {Name: "w", Kind: api.ACU, Unit: "f"}},
		slices.Repeat(exampleSignature(), 200),
	}
}

// answer is all that the calls answer to one and the same arguments.
type answer struct {
	numbers []int
	term    api.Term
	lists   [3][]api.Bind
}

func answerOf(s api.Signature, b, c []api.Bind, x api.Term, keep []string, first int) answer {
	var r answer
	e, at := subst.Check(s, b)
	same := 0
	if subst.Same(b, c) {
		same = 1
	}
	var eApply, eCompose api.Errno
	var next int
	r.term, eApply = subst.Apply(s, b, x)
	r.lists[0], eCompose = subst.Compose(s, b, c)
	r.lists[1] = subst.Restrict(b, keep)
	r.lists[2], next = subst.Rename(s, b, keep, first)
	r.numbers = []int{int(e), at, same, int(eApply), int(eCompose), next}
	return r
}

func (r answer) written() string {
	text := written(r.term)
	for _, n := range r.numbers {
		text += " " + strconv.Itoa(n)
	}
	for _, l := range r.lists {
		text += "; " + writtenBinds(l)
	}
	return text
}

func (r answer) cells() []any {
	all := cells(r.term.Args)
	for _, l := range r.lists {
		all = append(all, cellsOfBinds(l)...)
	}
	return all
}

func (r answer) spoil() {
	spoil(r.term.Args)
	for _, l := range r.lists {
		spoilBinds(l)
	}
}

// P3, and P4 for what is not right: what is handed in, and its spare room, stays as it was; what comes out is new memory, of which no two lists share any.
func TestMemory(t *testing.T) {
	for _, s := range slices.Concat(signatures(), wrongSignatures()) {
		m := newMaker(61)
		room := append(make(api.Signature, 0, len(s)+3), s...)
		copy(room[len(room):cap(room)], exampleSignature()[2:])
		wasRoom := slices.Clone(room[:cap(room)])
		for i := range 150 {
			likely := signatures()[i%3]
			b, c, x := m.substitution(likely, 9), m.substitution(likely, 9), m.right(likely, 15)
			if i%2 == 0 {
				b, c, x = m.spoiltBinds(likely, b), m.spoiltBinds(likely, c), m.spoilt(likely, 15)
			}
			b, c, x = roomyBinds(b), roomyBinds(c), roomy(x)
			keep := append(m.names(), "X", "Y", "_1")
			keep = keep[:len(keep)-1-m.Intn(2)]
			was, wasKeep := wholeBinds(b)+wholeBinds(c)+whole(x), slices.Clone(keep[:cap(keep)])
			first := m.Intn(20) - 5
			one, other := answerOf(room, b, c, x, keep, first), answerOf(room, b, c, x, keep, first)
			wantApart(t, "answers", one.cells(), other.cells(), cellsOfBinds(b), cellsOfBinds(c), cells(x.Args))
			if one.written() != other.written() {
				t.Fatalf("two answers: %s; %s", one.written(), other.written())
			}
			one.spoil()
			other.spoil()
			if wholeBinds(b)+wholeBinds(c)+whole(x) != was || !slices.Equal(keep[:cap(keep)], wasKeep) || !slices.Equal(room[:cap(room)], wasRoom) {
				t.Fatalf("changed: %s %s %s %v; was %s %v", wholeBinds(b), wholeBinds(c), whole(x), keep, was, wasKeep)
			}
		}
	}
}

// TestSharedComesOutApart: terms that share memory where they come in, and a bind that is put in at several places.
func TestSharedComesOutApart(t *testing.T) {
	s := exampleSignature()
	x := tm(t, "f(plus(X,a),plus(Y,a))")
	b := []api.Bind{bind("X", x), bind("Y", x), bind("Z", x)}
	was := wholeBinds(b)
	for _, y := range []api.Term{v("X"), sy(f, v("X"), v("X")), sy(plus, v("X"), v("Y"), v("X")), sy(f, x, x), sy(times, v("X"), sy(one))} {
		got, e := subst.Apply(s, b, y)
		if e != api.OK {
			t.Errorf("Apply: %d", e)
		}
		wantApart(t, "Apply", cells(got.Args), cells(x.Args))
	}
	for _, other := range [][]api.Bind{nil, b, {bind("X", sy(a))}} {
		got, _ := subst.Compose(s, b, other)
		wantApart(t, "Compose", cellsOfBinds(got), cells(x.Args))
		got, _ = subst.Compose(s, other, b)
		wantApart(t, "Compose", cellsOfBinds(got), cells(x.Args))
	}
	wantApart(t, "Restrict", cellsOfBinds(subst.Restrict(b, []string{"X", "Y", "Z"})), cells(x.Args))
	got, _ := subst.Rename(s, b, []string{"X"}, 1)
	wantApart(t, "Rename", cellsOfBinds(got), cells(x.Args))
	got, _ = subst.Rename(s, b, []string{"X", "Y"}, 1)
	wantApart(t, "Rename of nothing", cellsOfBinds(got), cells(x.Args))
	if wholeBinds(b) != was {
		t.Error("changed")
	}
}

// P3: an answer hangs on the arguments alone, not on what was asked ahead of it or is asked at the same time.
func TestNothingIsKept(t *testing.T) {
	s := exampleSignature()
	b, c, x := bs(t, "X -> plus(Y,a), Y -> f(X,Z)"), bs(t, "X -> a, Z -> one"), tm(t, "plus(X,Y,X)")
	want := answerOf(s, b, c, x, []string{"X"}, 3).written()
	other := answerOf(s, c, b, v("X"), nil, 0).written()
	var group sync.WaitGroup
	for range 8 {
		group.Go(func() {
			for range 100 {
				if answerOf(s, b, c, x, []string{"X"}, 3).written() != want || answerOf(s, c, b, v("X"), nil, 0).written() != other {
					t.Error("another answer at the same time")
				}
			}
		})
	}
	group.Wait()
}

// TestDeepTerms: P1 for terms as deep as the document's bound allows.
func TestDeepTerms(t *testing.T) {
	s := exampleSignature()
	const depth = 1<<16 - 2
	deep, odd := v("X"), v("X")
	for i := range depth {
		deep = sy(f, v("Y"), deep)
		odd = api.Term{Var: []string{"", "x"}[i/100%2], Sym: i%7 - 1, Args: []api.Term{odd}}
	}
	for _, x := range []api.Term{deep, odd} {
		b := []api.Bind{bind("X", x), bind("Y", x)}
		if e, at := subst.Check(s, b); e != api.ErrSubstGrown || at != 0 {
			t.Errorf("Check: %d, %d", e, at)
		}
		if _, e := subst.Apply(s, b, x); e != api.ErrSubstGrown {
			t.Errorf("Apply: %d", e)
		}
		if l, e := subst.Compose(s, b, b); e != api.ErrSubstGrown || len(l) > 0 {
			t.Errorf("Compose: %d", e)
		}
		if l, e := subst.Compose(s, nil, b); e != api.OK || !subst.Same(l, b) {
			t.Errorf("Compose of nothing: %d", e)
		}
		if l := subst.Restrict(b, []string{"Y"}); !subst.Same(l, b[1:]) {
			t.Error("Restrict")
		}
		subst.Rename(s, b, []string{"X"}, 1)
	}
	l, next := subst.Rename(s, []api.Bind{bind("Z", deep)}, []string{"X"}, 1)
	if next != 2 || terms.Has(l[0].T, "Y") || !terms.Has(l[0].T, "X") || !terms.Has(l[0].T, "_1") {
		t.Errorf("Rename: %d", next)
	}
}

// TestLongLists: many binds and names end soon.
func TestLongLists(t *testing.T) {
	s := exampleSignature()
	const n = 100000
	var b, c []api.Bind
	var keep []string
	for i := range n {
		name := "_" + strconv.Itoa(n+i)
		b = append(b, bind(name, v("_"+strconv.Itoa(n+(i+1)%n))))
		c = append(c, bind(name, v("_"+strconv.Itoa(n+(i+n-1)%n))))
		keep = append(keep, "_"+strconv.Itoa(i+1))
	}
	if e, at := subst.Check(s, b); e != api.OK {
		t.Errorf("Check: %d at %d", e, at)
	}
	if l, e := subst.Compose(s, b, c); e != api.OK || len(l) != 0 {
		t.Errorf("Compose of there and back: %d, %d binds", e, len(l))
	}
	if l, e := subst.Compose(s, b, b); e != api.OK || len(l) != n {
		t.Errorf("Compose: %d, %d binds", e, len(l))
	}
	if l := subst.Restrict(b, keep); len(l) != 1 || l[0].Var != "_"+strconv.Itoa(n) {
		t.Errorf("Restrict: %d binds", len(l))
	}
	if l, next := subst.Rename(s, b, keep, 1); len(l) != n || next < 2*n {
		t.Errorf("Rename: %d binds, %d", len(l), next)
	}
	if !subst.Same(b, b) || subst.Same(b, c) {
		t.Error("Same")
	}
}
