package derive_test

import (
	"math"
	"slices"
	"strconv"
	"strings"
	"sync"
	"testing"

	"amalgam/api"
	"amalgam/canon"
	"amalgam/derive"
	"amalgam/terms"
)

// roomy is a term of which each list has spare room, with something in it.
func roomy(t api.Term) api.Term {
	l := make([]api.Term, 0, len(t.Args)+2)
	for _, x := range t.Args {
		l = append(l, roomy(x))
	}
	copy(l[len(l):cap(l)], []api.Term{v("Spare"), sy(plus, v("Spare"), sy(a))})
	t.Args = l
	return t
}

// roomySteps are steps whose list, and whose paths, have spare room with something in it.
func roomySteps(in []api.Step) []api.Step {
	l := make([]api.Step, 0, len(in)+2)
	for _, x := range in {
		path := append(make([]int, 0, len(x.Path)+3), x.Path...)
		copy(path[len(path):cap(path)], []int{0, 1, 77})
		x.Path = path
		l = append(l, x)
	}
	copy(l[len(l):cap(l)], []api.Step{swap(0, 0, 1), drop(0, 1)})
	return l
}

// whole tells a term with its spare room.
func whole(t api.Term) string {
	var b strings.Builder
	writeWhole(&b, t)
	return b.String()
}

func writeWhole(b *strings.Builder, t api.Term) {
	b.WriteString(t.Var + "'" + strconv.Itoa(t.Sym) + "<")
	for _, x := range t.Args[:cap(t.Args)] {
		writeWhole(b, x)
	}
	b.WriteString(">")
}

func wholeSteps(l []api.Step) string {
	var b strings.Builder
	for _, x := range l[:cap(l)] {
		x.Path = x.Path[:cap(x.Path)]
		b.WriteString(writtenStep(x) + "; ")
	}
	return b.String()
}

// spoil writes on all memory of a list of terms, its spare room too.
func spoil(l []api.Term) {
	l = l[:cap(l)]
	for i, x := range l {
		spoil(x.Args)
		l[i] = api.Term{Var: "Spoilt", Sym: 66, Args: []api.Term{v("Spoilt")}}
	}
}

func spoilSteps(l []api.Step) {
	l = l[:cap(l)]
	for i, x := range l {
		path := x.Path[:cap(x.Path)]
		for j := range path {
			path[j] = 66
		}
		l[i] = api.Step{Kind: 66, Path: []int{66}, At: 66, Many: 66, Sym: 66}
	}
}

// cells are the addresses of all memory of a list of terms.
func cells(l []api.Term) []any {
	var all []any
	room := l[:cap(l)]
	for i := range room {
		all = append(all, &room[i])
		all = append(all, cells(room[i].Args)...)
	}
	return all
}

func cellsOfSteps(l []api.Step) []any {
	var all []any
	room := l[:cap(l)]
	for i := range room {
		all = append(all, &room[i])
		path := room[i].Path[:cap(room[i].Path)]
		for j := range path {
			all = append(all, &path[j])
		}
	}
	return all
}

// wantApart: no cell is there twice.
func wantApart(t *testing.T, what string, all ...[]any) {
	t.Helper()
	seen := map[any]int{}
	for _, c := range slices.Concat(all...) {
		seen[c]++
		if seen[c] > 1 {
			t.Fatalf("%s: memory is shared", what)
		}
	}
}

// spoilt makes a term of which some nodes are wrong.
func (m maker) spoilt(t api.Term) api.Term {
	for range 1 + m.Intn(4) {
		at := &t
		for len(at.Args) > 0 && m.Intn(4) > 0 {
			at = &at.Args[m.Intn(len(at.Args))]
		}
		switch m.Intn(6) {
		case 0:
			at.Var = []string{"X", "x", "", "_0", "Abcdefghijklm"}[m.Intn(5)]
		case 1:
			at.Sym = []int{-1, 0, 1, 2, 3, 4, 5, 99, math.MinInt, math.MaxInt}[m.Intn(10)]
		case 2:
			at.Args = at.Args[:m.Intn(len(at.Args)+1)]
		case 3:
			at.Args = slices.Repeat([]api.Term{sy(m.Intn(5))}, m.Intn(3))
		default:
			at.Args = slices.Insert(slices.Clone(at.Args), m.Intn(len(at.Args)+1), sy(m.Intn(5), v("X"), sy(m.Intn(5))))
		}
	}
	return t
}

// wrongSignatures are such that sig's Check refuses.
func wrongSignatures() []api.Signature {
	return []api.Signature{
		nil,
		{},
		exampleSignature()[:1],
		{{}, {}, {}, {}, {}},
		{{Kind: api.AC}, {Kind: api.ACU}, {Kind: 4}, {Kind: -1}, {Kind: math.MaxInt}, {Kind: math.MinInt}},
		{{Name: "u", Kind: api.ACU, Unit: "u"}, {Name: "v", Kind: api.ACU, Unit: "w"}, {Name: "w", Kind: api.ACU, Unit: "v"}, {Name: "z", Kind: api.ACU, Unit: "none"}},
		{{Name: "u", Kind: api.AC, Arity: 7}, {Name: "v", Kind: api.ACU, Unit: "u"}, {Name: "f", Kind: api.Free, Arity: -3}, {Name: "w", Kind: api.ACU, Unit: "f"}},
		slices.Repeat(exampleSignature(), 200),
	}
}

// answer is all that the calls answer to one and the same arguments.
type answer struct {
	numbers []int
	list    []api.Term
	steps   []api.Step
	ways    [2][]api.Step
}

func answerOf(s api.Signature, x, y api.Term, l []api.Step) answer {
	var r answer
	for _, p := range l {
		z, e := derive.Do(s, x, p)
		back, e2 := derive.Back(s, x, p)
		r.list, r.steps = append(r.list, z), append(r.steps, back)
		r.numbers = append(r.numbers, int(e), int(e2))
	}
	z, e, at := derive.Play(s, x, l)
	r.list, r.numbers = append(r.list, z), append(r.numbers, int(e), at)
	z, e, at = derive.Play(s, x, nil)
	r.list, r.numbers = append(r.list, z), append(r.numbers, int(e), at)
	r.ways[0] = derive.Down(s, x)
	var ok bool
	if r.ways[1], ok = derive.Way(s, x, y); ok {
		r.numbers = append(r.numbers, 1)
	}
	return r
}

func (r answer) written() string {
	text := writtenSteps(r.steps) + "; " + writtenSteps(r.ways[0]) + "; " + writtenSteps(r.ways[1])
	for _, x := range r.list {
		text += "; " + written(x)
	}
	for _, n := range r.numbers {
		text += " " + strconv.Itoa(n)
	}
	return text
}

func (r answer) cells() []any {
	return slices.Concat(cells(r.list), cellsOfSteps(r.steps), cellsOfSteps(r.ways[0]), cellsOfSteps(r.ways[1]))
}

func (r answer) spoil() {
	spoil(r.list)
	spoilSteps(r.steps)
	spoilSteps(r.ways[0])
	spoilSteps(r.ways[1])
}

// P3, and P4 for what is not right: what is handed in, and its spare room, stays as it was; what comes out is new memory, of which no two lists share any.
func TestMemory(t *testing.T) {
	for _, s := range slices.Concat(signatures(), wrongSignatures()) {
		m := newMaker(23)
		room := append(make(api.Signature, 0, len(s)+3), s...)
		copy(room[len(room):cap(room)], exampleSignature()[2:])
		wasRoom := slices.Clone(room[:cap(room)])
		for i := range 300 {
			likely := signatures()[i%3]
			x := m.right(likely, 15)
			y := m.stirred(likely, x, 6)
			var l []api.Step
			for z := x; len(l) < 6; {
				p := m.likely(likely, z)
				z, _, _ = said(likely, z, p)
				l = append(l, p)
			}
			if i%2 == 0 {
				x, y = m.spoilt(terms.Clone(x)), m.spoilt(terms.Clone(y))
			}
			x, y, l = roomy(x), roomy(y), roomySteps(l)
			was := whole(x) + whole(y) + wholeSteps(l)
			one, other := answerOf(room, x, y, l), answerOf(room, x, y, l)
			wantApart(t, "answers", one.cells(), other.cells(), cells(x.Args), cells(y.Args), cellsOfSteps(l))
			if one.written() != other.written() {
				t.Fatalf("two answers: %s; %s", one.written(), other.written())
			}
			one.spoil()
			other.spoil()
			if whole(x)+whole(y)+wholeSteps(l) != was || !slices.Equal(room[:cap(room)], wasRoom) {
				t.Fatalf("changed: %s %s %s; was %s", whole(x), whole(y), wholeSteps(l), was)
			}
		}
	}
}

// TestWrongTermsEnd: P1 and P4, by right and wrong signatures: every step that there may be, of terms that are not right.
func TestWrongTermsEnd(t *testing.T) {
	for _, s := range slices.Concat(signatures(), wrongSignatures()) {
		m := newMaker(29)
		for i := range 150 {
			x, y := m.spoilt(m.right(signatures()[i%3], 9)), m.spoilt(m.right(signatures()[i%3], 9))
			was := written(x) + written(y)
			few := s[:min(len(s), 6)]
			for _, p := range steps(few, x) {
				derive.Do(s, x, p)
				derive.Back(s, x, p)
			}
			derive.Play(s, x, derive.Down(s, y))
			derive.Down(s, x)
			derive.Way(s, x, y)
			derive.Way(s, x, x)
			if written(x)+written(y) != was {
				t.Fatalf("changed: %s, %s; was %s", written(x), written(y), was)
			}
		}
	}
	for _, sym := range []int{plus, times} {
		s := exampleSignature()
		for _, x := range []api.Term{sy(sym), sy(sym, sy(sym)), sy(sym, sy(one)), sy(sym, sy(sym, sy(one)), sy(sym)), sy(sym, sy(sym, sy(sym, v("X"))))} {
			derive.Down(s, x)
			derive.Way(s, x, sy(sym, x))
			for _, p := range steps(s, x) {
				derive.Do(s, x, p)
				derive.Back(s, x, p)
			}
		}
	}
}

// TestSharedComesOutApart: terms and paths that share memory where they come in.
func TestSharedComesOutApart(t *testing.T) {
	s := exampleSignature()
	x := tm(t, "times(plus(X,a),one,times(Y,a))")
	path := []int{0, 1}
	z := sy(f, x, x)
	in := sy(times, x, z, x, sy(one), x)
	was := whole(in)
	l := []api.Step{flat(2), flat(0), group(1, 3), swap(0), drop(1, path[:1]...), grow(times, 1, 1, path...), swap(0, path[:1]...), grow(times, 0, 1)}
	one := answerOf(s, in, sy(times, z, x, in), l)
	wantApart(t, "answers", one.cells(), cells(x.Args))
	one.spoil()
	if whole(in) != was || path[0] != 0 || path[1] != 1 {
		t.Error("changed")
	}
	// A step's path that came out leads nowhere else, whatever is written on the one that was handed in.
	p := swap(0, 0)
	back, e := derive.Back(s, sy(f, sy(plus, v("X"), sy(a)), v("X")), p)
	p.Path[0] = 1
	if e != api.OK || len(back.Path) != 1 || back.Path[0] != 0 {
		t.Errorf("Back: %s, %d", writtenStep(back), e)
	}
}

// P3: an answer hangs on the arguments alone, not on what was asked ahead of it or is asked at the same time.
func TestNothingIsKept(t *testing.T) {
	s := exampleSignature()
	x, y := tm(t, "plus(a,plus(X,times(one,a)))"), tm(t, "plus(plus(a,a),X)")
	l := []api.Step{flat(1), swap(1), drop(0, 1), group(0, 2), swap(7)}
	want, other := answerOf(s, x, y, l).written(), answerOf(s, y, x, l).written()
	var group sync.WaitGroup
	for range 8 {
		group.Go(func() {
			for range 100 {
				if answerOf(s, x, y, l).written() != want || answerOf(s, y, x, l).written() != other {
					t.Error("another answer at the same time")
				}
			}
		})
	}
	group.Wait()
}

// nested wraps a term again and again.
func nested(n int, t api.Term, wrap func(i int, t api.Term) api.Term) api.Term {
	for i := range n {
		t = wrap(i, t)
	}
	return t
}

// TestDeepTerms: P1 for terms as deep as the document's bound allows; that they end soon, too, is why steps are done as far up as they can be.
func TestDeepTerms(t *testing.T) {
	s := exampleSignature()
	x, u := v("X"), sy(one)
	const depth = 1<<16 - 2
	between := func(wrap func(t api.Term) api.Term) func(int, api.Term) api.Term {
		return func(i int, t api.Term) api.Term {
			if i%2 == 0 {
				return sy(plus, x, t)
			}
			return wrap(t)
		}
	}
	for _, y := range []api.Term{
		nested(depth/4, sy(a), func(_ int, t api.Term) api.Term { return sy(plus, t, x) }),
		nested(depth, x, func(_ int, t api.Term) api.Term { return sy(plus, sy(a), t) }),
		nested(depth, u, func(_ int, t api.Term) api.Term { return sy(times, u, t) }),
		nested(depth, x, func(_ int, t api.Term) api.Term { return sy(times, t, u) }),
		nested(depth, x, between(func(t api.Term) api.Term { return sy(times, u, t) })),
		nested(depth, x, between(func(t api.Term) api.Term { return sy(times, t, u) })),
		nested(depth, sy(times, x, u), func(_ int, t api.Term) api.Term { return sy(f, x, t) }),
	} {
		l := derive.Down(s, y)
		z, e, _ := derive.Play(s, y, l)
		if e != api.OK || !terms.Same(z, canon.Canon(s, y)) {
			t.Errorf("Play of Down: %d, %d steps", e, len(l))
		}
		if l, ok := derive.Way(s, y, sy(f, y, y)); ok || len(l) > 0 {
			t.Error("Way")
		}
	}
	deep := nested(depth, sy(plus, x, sy(times, x, u)), func(_ int, t api.Term) api.Term { return sy(f, x, t) })
	path := slices.Repeat([]int{1}, depth)
	y, e := derive.Do(s, deep, swap(0, path...))
	back, e2 := derive.Back(s, deep, drop(1, append(path, 1)...))
	if n, e3 := terms.At(y, path); e != api.OK || e2 != api.OK || e3 != api.OK || len(n.Args) != 2 || n.Args[1].Var != "X" || len(back.Path) != depth+1 {
		t.Errorf("far within: %d, %d, %d", e, e2, e3)
	}
	if _, e := derive.Do(s, deep, swap(0, append(path, 2)...)); e != api.ErrDeriveStep {
		t.Errorf("no place, far within: %d", e)
	}
	wrong := nested(depth, x, func(i int, t api.Term) api.Term {
		return api.Term{Var: []string{"", "x"}[i/100%2], Sym: i%7 - 1, Args: []api.Term{t}}
	})
	derive.Play(s, wrong, derive.Down(s, wrong))
}

// TestWideTerms: many arguments out of order take no more than some steps each.
func TestWideTerms(t *testing.T) {
	s := exampleSignature()
	const n = 6000
	for _, sym := range []int{plus, times} {
		l := make([]api.Term, n)
		for i := range l {
			l[i] = []api.Term{sy(one), sy(a), v("X"), sy(plus, v("Y"), v("X")), v("_" + strconv.Itoa(n-i))}[i*7%5]
		}
		x := sy(sym, l...)
		steps := derive.Down(s, x)
		y, e, _ := derive.Play(s, x, steps)
		if e != api.OK || !terms.Same(y, canon.Canon(s, x)) || len(steps) > 5*n {
			t.Errorf("Play of Down: %d, %d steps", e, len(steps))
		}
	}
	x := sy(times, slices.Repeat([]api.Term{sy(one)}, 100000)...)
	if y, e, _ := derive.Play(s, x, derive.Down(s, x)); e != api.OK || !terms.Same(y, sy(one)) {
		t.Errorf("units alone: %d", e)
	}
}
