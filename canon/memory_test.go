package canon_test

import (
	"math"
	"slices"
	"sync"
	"testing"

	"amalgam/api"
	"amalgam/canon"
	"amalgam/terms"
)

// roomy is a term of which each list has spare room, with something in it.
func roomy(t api.Term) api.Term {
	t.Args = roomyList(t.Args)
	return t
}

func roomyList(in []api.Term) []api.Term {
	l := make([]api.Term, 0, len(in)+2)
	for _, x := range in {
		l = append(l, roomy(x))
	}
	copy(l[len(l):cap(l)], []api.Term{v("Spare"), sy(plus, v("Spare"), sy(a))})
	return l
}

// whole tells a term with its spare room.
func whole(t api.Term) string {
	return written(api.Term{Var: t.Var, Sym: t.Sym}) + wholeList(t.Args)
}

func wholeList(l []api.Term) string {
	s := "<"
	for _, x := range l[:cap(l)] {
		s += whole(x) + " "
	}
	return s + ">"
}

// spoil writes on all memory of a list of terms, its spare room too.
func spoil(l []api.Term) {
	l = l[:cap(l)]
	for i, x := range l {
		spoil(x.Args)
		l[i] = api.Term{Var: "Spoilt", Sym: 66, Args: []api.Term{v("Spoilt")}}
	}
}

// cells are the addresses of all memory of a list of terms.
func cells(l []api.Term) []*api.Term {
	var all []*api.Term
	room := l[:cap(l)]
	for i := range room {
		all = append(all, &room[i])
		all = append(all, cells(room[i].Args)...)
	}
	return all
}

// wantApart: no cell of the lists is there twice.
func wantApart(t *testing.T, what string, lists ...[]api.Term) {
	t.Helper()
	seen := map[*api.Term]int{}
	for _, l := range lists {
		for _, c := range cells(l) {
			seen[c]++
			if seen[c] > 1 {
				t.Fatalf("%s: memory is shared", what)
			}
		}
	}
}

// answers are all lists of terms that the calls answer.
func answers(s api.Signature, sym int, x, y api.Term, l []api.Term) [][]api.Term {
	canon.Is(s, x)
	canon.Equal(s, x, y)
	joined, _ := canon.Join(s, sym, l)
	return [][]api.Term{canon.Canon(s, x).Args, canon.Parts(s, sym, x), canon.Parts(s, sym, canon.Canon(s, y)), joined.Args}
}

// spoilt makes a term of which some nodes are wrong.
func (m maker) spoilt(s api.Signature, n int) api.Term {
	t := m.right(s, n)
	for range m.Intn(4) {
		at := &t
		for len(at.Args) > 0 && m.Intn(4) > 0 {
			at = &at.Args[m.Intn(len(at.Args))]
		}
		switch m.Intn(6) {
		case 0:
			at.Var = []string{"X", "x", "", "_0", "Abcdefghijklm"}[m.Intn(5)]
		case 1:
			at.Sym = []int{-1, 0, 1, 4, 5, 99, math.MinInt, math.MaxInt}[m.Intn(8)]
		case 2:
			at.Args = at.Args[:m.Intn(len(at.Args)+1)]
		default:
			at.Args = slices.Insert(slices.Clone(at.Args), m.Intn(len(at.Args)+1), m.right(s, 3))
		}
	}
	return t
}

// wrongSignatures are such that sig's Check refuses.
func wrongSignatures() []api.Signature {
	return []api.Signature{
		nil,
		{},
		exampleSignature()[:1],
		{{}, {}, {}, {}, {}},
		{{Kind: api.AC}, {Kind: api.ACU}, {Kind: 4}, {Kind: -1}, {Kind: math.MaxInt}, {Kind: math.MinInt}},
		{{Name: "u", Kind: api.ACU, Unit: "u"}, {Name: "v", Kind: api.ACU, Unit: "w"}, {Name: "w", Kind: api.ACU, Unit: "v"}, {Name: "z", Kind: api.ACU, Unit: "none"}},
		{{Name: "u", Kind: api.AC, Arity: 7}, {Name: "v", Kind: api.ACU, Unit: "u"}, {Name: "f", Kind: api.Free, Arity: -3}, {Name: "w", Kind: api.ACU, Unit: "f"}},
		slices.Repeat(exampleSignature(), 200),
	}
}

// P3, and P4 for what is not right: what is handed in, and its spare room, stays as it was; what comes out is new memory, of which no two lists share any.
func TestMemory(t *testing.T) {
	for _, s := range slices.Concat(signatures(), wrongSignatures()) {
		m := newMaker(61)
		room := append(make(api.Signature, 0, len(s)+3), s...)
		copy(room[len(room):cap(room)], exampleSignature()[2:])
		wasRoom := slices.Clone(room[:cap(room)])
		for i := range 300 {
			likely := signatures()[i%3]
			x, y := m.spoilt(likely, 25), m.spoilt(likely, 8)
			if i%2 == 0 {
				x, y = m.right(likely, 25), m.right(likely, 8)
			}
			x, y = roomy(x), roomy(y)
			l := roomyList([]api.Term{x, y, m.right(likely, 6), y}[:m.Intn(5)])
			was := whole(x) + whole(y) + wholeList(l)
			for _, sym := range slices.Concat(noPlaces(len(s)), []int{0, 1, 2, 3, 4, 5, 6, 7, 8}) {
				first, second := answers(room, sym, x, y, l), answers(room, sym, x, y, l)
				wantApart(t, "answers", slices.Concat(first, second, [][]api.Term{x.Args, y.Args, l})...)
				for j := range first {
					if writtenList(first[j]) != writtenList(second[j]) {
						t.Fatalf("two answers: %s; %s", writtenList(first[j]), writtenList(second[j]))
					}
					spoil(first[j])
				}
			}
			if whole(x)+whole(y)+wholeList(l) != was || !slices.Equal(room[:cap(room)], wasRoom) {
				t.Fatalf("changed: %s, %s, %s, %v; was %s, %v", whole(x), whole(y), wholeList(l), room[:cap(room)], was, wasRoom)
			}
		}
	}
}

// TestCanonicalComesOutNew: what is canonical already is copied, too, and lists that share memory come out apart.
func TestCanonicalComesOutNew(t *testing.T) {
	s := exampleSignature()
	in := sy(plus, v("X"), v("Y"))
	l := []api.Term{in, in}
	for _, x := range []api.Term{in, sy(f, l...), sy(times, l...), sy(plus, sy(f, l...), sy(times, l...)), sy(times, in, sy(one)), sy(plus, l...)} {
		got := canon.Canon(s, x)
		wantApart(t, "Canon", in.Args, got.Args)
		wantApart(t, "Canon", l[:1:1], got.Args)
		for sym := range s {
			wantApart(t, "Parts", in.Args, canon.Parts(s, sym, got), got.Args)
			joined, _ := canon.Join(s, sym, []api.Term{x})
			wantApart(t, "Join of one", in.Args, joined.Args, got.Args)
			joined, _ = canon.Join(s, sym, l)
			wantApart(t, "Join of two", in.Args, joined.Args)
		}
	}
	wantTerm(t, "what was handed in", in, sy(plus, v("X"), v("Y")))
}

// P3: an answer hangs on the arguments alone, not on what was asked ahead of it or is asked at the same time.
func TestNothingIsKept(t *testing.T) {
	s := exampleSignature()
	x := sy(plus, sy(a), sy(plus, v("X"), sy(times, sy(one), sy(a))))
	want := sy(plus, v("X"), sy(a), sy(a))
	var group sync.WaitGroup
	for range 8 {
		group.Go(func() {
			for range 100 {
				wantCanon(t, "at the same time", s, x, want)
				wantJoin(t, "at the same time", s, plus, x.Args, want)
				wantParts(t, "at the same time", s, plus, want, want.Args...)
				wantNoJoin(t, "at the same time", s, f, x.Args)
			}
		})
	}
	group.Wait()
	// The same names in another signature are other symbols.
	other := slices.Clone(s)
	other[plus].Kind = api.Free
	wantCanon(t, "another signature", other, sy(plus, sy(a), v("X")), sy(plus, sy(a), v("X")))
	wantCanon(t, "the first one again", s, sy(plus, sy(a), v("X")), sy(plus, v("X"), sy(a)))
}

// nested puts a term, again and again, where wrap puts it.
func nested(depth int, t api.Term, wrap func(i int, t api.Term) api.Term) api.Term {
	for i := range depth {
		t = wrap(i, t)
	}
	return t
}

// TestDeepTerms: P1 for terms as deep as the document's bound allows; that they end soon, too, is why arguments are not moved at each level.
func TestDeepTerms(t *testing.T) {
	s := exampleSignature()
	x, u := v("X"), sy(one)
	const depth = 1<<16 - 2
	row := func(n int) []api.Term { return slices.Repeat([]api.Term{x}, n) }
	for _, c := range []pair{
		{"to the right", nested(depth, x, func(_ int, t api.Term) api.Term { return sy(plus, x, t) }), sy(plus, row(depth+1)...)},
		{"to the left", nested(depth, x, func(_ int, t api.Term) api.Term { return sy(plus, t, x) }), sy(plus, row(depth+1)...)},
		{"out of order", nested(depth, sy(a), func(_ int, t api.Term) api.Term { return sy(times, t, x) }), sy(times, append(row(depth), sy(a))...)},
		{"units alone", nested(depth, u, func(_ int, t api.Term) api.Term { return sy(times, u, t) }), u},
		{"one is left", nested(depth, x, func(_ int, t api.Term) api.Term { return sy(times, t, u) }), x},
		{"with units between", nested(depth, x, func(i int, t api.Term) api.Term {
			if i%2 == 0 {
				return sy(plus, x, t)
			}
			return sy(times, u, t)
		}), sy(plus, row(depth/2+1)...)},
	} {
		if got := canon.Canon(s, c.t); !terms.Same(got, c.want) {
			t.Errorf("%s: another term of %d arguments", c.what, len(got.Args))
		}
		if canon.Is(s, c.t) || !canon.Is(s, c.want) || !canon.Equal(s, c.t, c.want) {
			t.Errorf("%s: Is, Equal", c.what)
		}
		if got, ok := canon.Join(s, times, []api.Term{c.t, u}); !ok || !terms.Same(got, c.want) {
			t.Errorf("%s: Join", c.what)
		}
	}
}

// TestDeepTermsThatStayDeep: as above, of terms in which nothing is laid among others.
func TestDeepTermsThatStayDeep(t *testing.T) {
	s := exampleSignature()
	x := v("X")
	const depth = 1<<16 - 2
	turns := func(i int, t api.Term) api.Term {
		return sy([]int{f, plus, f, times}[i%4], x, t)
	}
	mirrored := func(i int, t api.Term) api.Term {
		if i%2 == 0 {
			return sy(f, x, t)
		}
		return sy([]int{f, plus, f, times}[i%4], t, x)
	}
	// The symbol at the top is plus.
	deep, other := nested(depth, sy(f, x, x), turns), nested(depth, sy(f, x, x), mirrored)
	if !terms.Same(canon.Canon(s, other), deep) || !canon.Is(s, deep) || canon.Is(s, other) || !canon.Equal(s, deep, other) {
		t.Error("Canon, Is, Equal")
	}
	for sym := range s {
		if l := canon.Parts(s, sym, deep); sym != plus && (len(l) != 1 || !terms.Same(l[0], deep)) {
			t.Errorf("Parts by %d: %d", sym, len(l))
		}
	}
	wrong := nested(depth, x, func(i int, t api.Term) api.Term {
		return api.Term{Var: []string{"", "x"}[i/100%2], Sym: i%7 - 1, Args: []api.Term{t}}
	})
	canon.Is(s, wrong)
	canon.Join(s, times, canon.Parts(s, plus, wrong))
}

func TestWideTerms(t *testing.T) {
	s := exampleSignature()
	const n = 100000
	l := make([]api.Term, n)
	for i := range l {
		l[i] = []api.Term{sy(one), sy(a), v("X"), sy(plus, v("Y"), v("X"))}[i*7%4]
	}
	got := canon.Canon(s, sy(plus, l...))
	if len(got.Args) != n/4*5 || !canon.Is(s, got) {
		t.Errorf("plus of %d: %d", n, len(got.Args))
	}
	got, ok := canon.Join(s, times, l)
	if !ok || len(got.Args) != n/4*3 || !canon.Is(s, got) || len(canon.Parts(s, times, got)) != n/4*3 {
		t.Errorf("times of %d: %d", n, len(got.Args))
	}
}
