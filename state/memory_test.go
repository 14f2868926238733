package state_test

import (
	"math"
	"slices"
	"strconv"
	"strings"
	"sync"
	"testing"

	"amalgam/api"
	"amalgam/state"
	"amalgam/terms"
)

// roomy is a term of which each list has spare room, with something in it.
func roomy(t api.Term) api.Term {
	l := make([]api.Term, 0, len(t.Args)+2)
	for _, x := range t.Args {
		l = append(l, roomy(x))
	}
	copy(l[len(l):cap(l)], []api.Term{v("Spare"), sy(plus, v("Spare"), sy(a))})
	t.Args = l
	return t
}

func roomyEquations(in []api.Equation) []api.Equation {
	l := make([]api.Equation, 0, len(in)+2)
	for _, x := range in {
		l = append(l, eq(roomy(x.L), roomy(x.R)))
	}
	copy(l[len(l):cap(l)], []api.Equation{eq(v("X"), sy(a)), eq(sy(plus, v("Spare"), sy(a)), v("Spare"))})
	return l
}

func roomyState(x api.State) api.State {
	l := make([]api.Bind, 0, len(x.Binds)+2)
	for _, b := range x.Binds {
		l = append(l, bind(b.Var, roomy(b.T)))
	}
	copy(l[len(l):cap(l)], []api.Bind{bind("A", sy(a)), bind("Spare", sy(plus, v("Spare"), sy(a)))})
	return api.State{Equations: roomyEquations(x.Equations), Binds: l, Fresh: x.Fresh}
}

// whole tells a state with all its spare room.
func whole(x api.State) string {
	var b strings.Builder
	for _, q := range x.Equations[:cap(x.Equations)] {
		writeWhole(&b, q.L)
		writeWhole(&b, q.R)
	}
	for _, y := range x.Binds[:cap(x.Binds)] {
		b.WriteString(y.Var + " -> ")
		writeWhole(&b, y.T)
	}
	return b.String() + strconv.Itoa(x.Fresh) + " " + strconv.Itoa(len(x.Equations)) + " " + strconv.Itoa(len(x.Binds))
}

func writeWhole(b *strings.Builder, t api.Term) {
	b.WriteString(t.Var + "'" + strconv.Itoa(t.Sym) + "<")
	for _, x := range t.Args[:cap(t.Args)] {
		writeWhole(b, x)
	}
	b.WriteString(">" + strconv.Itoa(len(t.Args)))
}

// spoil writes on all memory of a list of terms, its spare room too.
func spoil(l []api.Term) {
	l = l[:cap(l)]
	for i, x := range l {
		spoil(x.Args)
		l[i] = api.Term{Var: "Spoilt", Sym: 66, Args: []api.Term{v("Spoilt")}}
	}
}

func spoilState(x api.State) {
	l, m := x.Equations[:cap(x.Equations)], x.Binds[:cap(x.Binds)]
	for i, q := range l {
		spoil(q.L.Args)
		spoil(q.R.Args)
		l[i] = eq(sy(66, v("Spoilt")), v("Spoilt"))
	}
	for i, b := range m {
		spoil(b.T.Args)
		m[i] = bind("Spoilt", sy(66, v("Spoilt")))
	}
}

// cells are the addresses of all memory of a list of terms.
func cells(l []api.Term) []any {
	var all []any
	room := l[:cap(l)]
	for i := range room {
		all = append(all, &room[i])
		all = append(all, cells(room[i].Args)...)
	}
	return all
}

func cellsOf(x api.State) []any {
	var all []any
	l, m := x.Equations[:cap(x.Equations)], x.Binds[:cap(x.Binds)]
	for i := range l {
		all = append(all, &l[i])
		all = append(all, cells(l[i].L.Args)...)
		all = append(all, cells(l[i].R.Args)...)
	}
	for i := range m {
		all = append(all, &m[i])
		all = append(all, cells(m[i].T.Args)...)
	}
	return all
}

// wantApart: no cell is there twice.
func wantApart(t *testing.T, what string, all ...[]any) {
	t.Helper()
	seen := map[any]int{}
	for _, c := range slices.Concat(all...) {
		seen[c]++
		if seen[c] > 1 {
			t.Fatalf("%s: memory is shared", what)
		}
	}
}

// handed is what calls are given.
type handed struct {
	s   api.Signature
	x   api.State
	y   api.State
	b   api.Bind
	all []api.Bind // b with spare room
}

// answer is what all calls answer.
type answer struct {
	states []api.State
	rest   string
}

func (h handed) ask() answer {
	x := answer{states: []api.State{state.Clone(h.x)}}
	at, some := state.Next(h.x)
	x.rest = strconv.Itoa(at) + strconv.FormatBool(some) + strconv.FormatBool(state.Same(h.x, h.y)) + strconv.FormatBool(state.Same(h.x, h.x)) + strconv.FormatBool(state.Solved(h.x))
	note := func(y api.State, e api.Errno) {
		x.states = append(x.states, y)
		x.rest += " " + strconv.Itoa(int(e))
		if e != api.OK && told(y) != told(api.State{}) {
			x.rest += " not nothing"
		}
	}
	for at := -1; at <= len(h.x.Equations); at++ {
		note(state.Replace(h.x, at, h.y.Equations))
		note(state.Replace(h.x, at, nil))
	}
	note(state.Bind(h.s, h.x, h.b))
	return x
}

func (x answer) told() string {
	text := x.rest
	for _, y := range x.states {
		text += " / " + told(y)
	}
	return text
}

func (x answer) cells() []any {
	var all []any
	for _, y := range x.states {
		all = append(all, cellsOf(y)...)
	}
	return all
}

func (x answer) spoil() {
	for _, y := range x.states {
		spoilState(y)
	}
}

func (h handed) whole() string {
	return whole(h.x) + whole(h.y) + whole(api.State{Binds: h.all})
}

// wrongSignatures are such that sig's Check refuses.
func wrongSignatures() []api.Signature {
	return []api.Signature{
		nil,
		{},
		example()[1:],
		{{}, {}, {}, {}, {}},
		{{Kind: api.Free}, {Kind: api.Free}, {Kind: api.Free, Arity: -1}},
		{{Kind: api.AC}, {Kind: api.ACU}, {Kind: 4}, {Kind: -1}, {Kind: math.MaxInt}, {Kind: math.MinInt}},
		{{Name: "u", Kind: api.ACU, Unit: "u"}, {Name: "v", Kind: api.ACU, Unit: "w"}, {Name: "w", Kind: api.ACU, Unit: "v"}, {Name: "z", Kind: api.ACU, Unit: "none"}},
		{{Name: "u", Kind: api.AC, Arity: 7}, {Name: "v", Kind: api.ACU, Unit: "u"}, {Name: "f", Kind: api.Free, Arity: -3}, {Name: "w", Kind: api.ACU, Unit: "f"}},
		slices.Repeat(example(), 200),
	}
}

// given makes what is handed in, right or not, all of it with spare room.
func (m maker) given(s api.Signature, spoilt bool) handed {
	h := handed{s: s}
	by := signatures()[m.Intn(4)]
	h.x, h.b = m.state(by, 12)
	h.y, _ = m.state(by, 12)
	if spoilt {
		h.x, h.y, h.b = m.any(by), m.any(by), m.anyBind(by)
	}
	h.x, h.y = roomyState(h.x), roomyState(h.y)
	h.all = roomyState(api.State{Binds: []api.Bind{h.b}}).Binds
	h.b = h.all[0]
	return h
}

// P1, P3, and P4 for what is not right: what is handed in, and its spare room, stays as it was; what comes out is new memory, of which no two lists share any, and the same each time; beside an error there is nothing.
func TestMemory(t *testing.T) {
	for _, s := range slices.Concat(signatures(), wrongSignatures()) {
		m := newMaker(400)
		room := append(make(api.Signature, 0, len(s)+3), s...)
		copy(room[len(room):cap(room)], example()[3:])
		wasRoom := slices.Clone(room[:cap(room)])
		for i := range 200 {
			h := m.given(room, i%3 == 0)
			was := h.whole()
			first, second := h.ask(), h.ask()
			wantApart(t, "answers", first.cells(), second.cells(), cellsOf(h.x), cellsOf(h.y), cellsOf(api.State{Binds: h.all}))
			if first.told() != second.told() {
				t.Fatalf("two answers: %s; %s", first.told(), second.told())
			}
			if strings.Contains(first.rest, "not nothing") {
				t.Fatalf("beside an error: %s", first.told())
			}
			text := second.told()
			first.spoil()
			if second.told() != text {
				t.Fatalf("spoilt by another answer: %s; was %s", second.told(), text)
			}
			second.spoil()
			if now := h.whole(); now != was || !slices.Equal(room[:cap(room)], wasRoom) {
				t.Fatalf("changed: %s; was %s", now, was)
			}
		}
	}
}

// TestSharedComesOutApart: terms that share memory where they come in, a term that is put in at several places, a list that is handed in twice.
func TestSharedComesOutApart(t *testing.T) {
	in := sy(f, v("X"), sy(g, v("Y")))
	pair := sy(f, in, in)
	l := []api.Equation{eq(in, in), eq(pair, v("X")), eq(sy(plus, v("X"), v("X"), in), in)}
	x := api.State{Equations: l, Binds: []api.Bind{bind("V", in), bind("W", pair), bind("Z", sy(f, v("X"), v("X")))}}
	was := told(x)
	clone := state.Clone(x)
	wantState(t, "Clone", clone, x)
	replaced, _ := state.Replace(x, 1, l)
	wantState(t, "Replace", replaced, api.State{Equations: slices.Concat(l[:1], l, l[2:]), Binds: x.Binds})
	term := sy(f, v("Y"), sy(f, v("U"), v("U")))
	bound, e := state.Bind(plain(), x, bind("X", term))
	if e != api.OK || len(bound.Binds) != 4 {
		t.Fatalf("%d, %s", e, told(bound))
	}
	wantApart(t, "answers", cellsOf(clone), cellsOf(replaced), cellsOf(bound), cells(in.Args), cells(term.Args))
	// A bound term that is the very one that stands in the state.
	bound, e = state.Bind(plain(), x, bind("Q", pair))
	if e != api.OK {
		t.Fatal(e)
	}
	wantApart(t, "answers", cellsOf(bound), cells(in.Args))
	for _, y := range []api.State{clone, replaced, bound} {
		spoilState(y)
	}
	if told(x) != was {
		t.Errorf("%s; was %s", told(x), was)
	}
}

// P3: an answer hangs on the arguments alone, not on what was asked ahead of it or is asked at the same time.
func TestNothingIsKept(t *testing.T) {
	h := handed{s: plain(), x: read(t, "X = f(Y,Y); plus(X,a) = plus(Y,Z); f(X,a) = Z", "V -> plus(X,Y)", 2), y: read(t, "a = b; X = X", "", 0), b: bind("X", term(t, "plus(Y,b)"))}
	other := handed{s: example(), x: h.y, y: h.x, b: bind("Y", sy(one))}
	want, wantOther := h.ask().told(), other.ask().told()
	var group sync.WaitGroup
	for range 8 {
		group.Go(func() {
			for range 100 {
				if h.ask().told() != want || other.ask().told() != wantOther {
					t.Error("another answer at the same time")
				}
			}
		})
	}
	group.Wait()
	if got := h.ask().told(); got != want {
		t.Errorf("behind: %s; want %s", got, want)
	}
	h.x.Equations[0].L.Var, h.x.Fresh = "Z", 3
	if got := h.ask().told(); got == want {
		t.Errorf("of another state: %s", got)
	}
}

// TestBindOfNoSubstitution: P1 for a variable that is bound already, for binds that do not rise, for names that may not be, for variables that have arguments.
func TestBindOfNoSubstitution(t *testing.T) {
	around := func(name string, args ...api.Term) api.Term { return api.Term{Var: name, Sym: 7, Args: args} }
	l := []api.Term{v("X"), v("Y"), v("x"), sy(a), sy(99), sy(-1), sy(f), sy(plus), sy(plus, v("X")), around("X", v("X")), around("X", v("Y")), around("Y", v("X"), around("X", v("Y"))), around("Y", sy(f, v("X"), v("Y"))), sy(g, around("X", v("Z"))), sy(f, around("Z", v("X")), around("Y", v("X")))}
	names := []string{"", "X", "Y", "x", "\x00", "\xff\xff", "a b"}
	for _, x := range l {
		for _, y := range l {
			for _, one := range names {
				for _, other := range names {
					h := handed{s: plain(), x: api.State{Equations: []api.Equation{eq(x, y)}, Binds: []api.Bind{bind(one, y), bind("Z", x), bind(other, y)}}, b: bind(one, x)}
					first, second := h.ask(), h.ask()
					if first.told() != second.told() {
						t.Fatalf("two answers: %s; %s", first.told(), second.told())
					}
				}
			}
		}
	}
}

// deep is a term as deep as the document's bound allows.
func deep(leaf api.Term) api.Term {
	for range 1<<16 - 6 {
		leaf = sy(f, sy(a), leaf)
	}
	return leaf
}

// TestDeepTerms: P1 for terms as deep as the document's bound allows.
func TestDeepTerms(t *testing.T) {
	x, y := deep(v("X")), deep(sy(b))
	q := api.State{Equations: []api.Equation{eq(x, y), eq(y, y), eq(v("Y"), sy(a))}, Binds: []api.Bind{bind("V", y)}, Fresh: 1}
	if c := state.Clone(q); !state.Same(c, q) || c.Fresh != 1 {
		t.Error("Clone")
	}
	wantNext(t, "deep ones", q, 2, true)
	if c, e := state.Replace(q, 2, []api.Equation{eq(y, x)}); e != api.OK || len(c.Equations) != 3 || !terms.Same(c.Equations[2].R, x) {
		t.Errorf("Replace: %d", e)
	}
	got, e := state.Bind(plain(), q, bind("Z", sy(a)))
	wantError(t, "deep terms", got, e, api.ErrSubstGrown)
	got, e = state.Bind(plain(), q, bind("X", x))
	wantError(t, "deep within", got, e, api.ErrStateOccurs)
	got, e = state.Bind(plain(), api.State{Equations: []api.Equation{eq(v("Z"), v("W"))}}, bind("X", y))
	if e != api.OK || len(got.Binds) != 1 || !terms.Same(got.Binds[0].T, y) {
		t.Errorf("a deep bind: %d", e)
	}
	wrong := v("X")
	for i := range 1<<16 - 4 {
		wrong = api.Term{Var: []string{"", "x"}[i/100%2], Sym: i%7 - 1, Args: []api.Term{wrong}}
	}
	h := handed{s: plain(), x: api.State{Equations: []api.Equation{eq(wrong, x), eq(v("X"), wrong)}, Binds: []api.Bind{bind("X", wrong)}}, b: bind("Y", wrong)}
	h.ask()
}

// TestWideStates: P1 for many equations, many binds, many arguments.
func TestWideStates(t *testing.T) {
	const n = 50000
	x := api.State{Fresh: n}
	wide := sy(plus)
	for i := range n {
		name := "X" + strconv.Itoa(n+i)
		x.Equations = append(x.Equations, eq(v("Y"), sy(f, v(name), v("Y"))))
		x.Binds = append(x.Binds, bind(name, sy(g, v("Y"))))
		wide.Args = append(wide.Args, v(name))
	}
	got, e := state.Bind(plain(), x, bind("X"+strconv.Itoa(n+n/2)+"a", sy(a)))
	if e != api.OK || len(got.Binds) != n+1 || got.Binds[n/2+1].T.Sym != a || got.Binds[n/2].T.Sym != g || got.Binds[n/2+2].T.Sym != g {
		t.Errorf("a bind among many: %d", e)
	}
	got, e = state.Bind(plain(), x, bind("Y", sy(b)))
	if e != api.OK || len(got.Equations) != n || got.Equations[n-1].L.Sym != b || got.Binds[n].Var != "Y" || got.Binds[n-1].T.Args[0].Sym != b {
		t.Errorf("a bind into many: %d", e)
	}
	got, e = state.Replace(x, n/2, x.Equations)
	if e != api.OK || len(got.Equations) != 2*n-1 {
		t.Errorf("many in the place of one: %d", e)
	}
	x.Equations = append(x.Equations, eq(v("Y"), wide))
	wantNext(t, "many", x, 0, true)
	got, e = state.Bind(plain(), x, bind("Z", sy(a)))
	wantError(t, "many arguments", got, e, api.ErrSubstGrown)
}
