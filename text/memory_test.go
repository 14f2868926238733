package text_test

import (
	"math"
	"slices"
	"strings"
	"sync"
	"testing"

	"amalgam/api"
	"amalgam/text"
)

// roomy is a term of which each list has spare room, with something in it.
func roomy(t api.Term) api.Term {
	l := make([]api.Term, 0, len(t.Args)+2)
	for _, x := range t.Args {
		l = append(l, roomy(x))
	}
	copy(l[len(l):cap(l)], []api.Term{v("Spare"), sy(plus, v("Spare"), sy(a))})
	t.Args = l
	return t
}

func roomyBinds(in []api.Bind) []api.Bind {
	l := make([]api.Bind, 0, len(in)+1)
	for _, b := range in {
		l = append(l, bind(b.Var, roomy(b.T)))
	}
	l[:cap(l)][len(l)] = bind("Spare", sy(a))
	return l
}

// whole tells a term with its spare room.
func whole(t api.Term) string {
	s := written(api.Term{Var: t.Var, Sym: t.Sym}) + "<"
	for _, x := range t.Args[:cap(t.Args)] {
		s += whole(x) + " "
	}
	return s + ">"
}

func wholeBinds(l []api.Bind) string {
	s := ""
	for _, b := range l[:cap(l)] {
		s += b.Var + " -> " + whole(b.T) + "; "
	}
	return s
}

// cells are the addresses of all memory of a list of terms.
func cells(l []api.Term) []any {
	var all []any
	room := l[:cap(l)]
	for i := range room {
		all = append(all, &room[i])
		all = append(all, cells(room[i].Args)...)
	}
	return all
}

func bindCells(l []api.Bind) []any {
	var all []any
	room := l[:cap(l)]
	for i := range room {
		all = append(all, &room[i])
		all = append(all, cells(room[i].T.Args)...)
	}
	return all
}

func spoil(l []api.Term) {
	l = l[:cap(l)]
	for i, x := range l {
		spoil(x.Args)
		l[i] = api.Term{Var: "Spoilt", Sym: 66, Args: []api.Term{v("Spoilt")}}
	}
}

func spoilBinds(l []api.Bind) {
	l = l[:cap(l)]
	for i, b := range l {
		spoil(b.T.Args)
		l[i] = bind("Spoilt", v("Spoilt"))
	}
}

// wantApart: no cell is there twice.
func wantApart(t *testing.T, in string, all []any) {
	t.Helper()
	seen := map[any]int{}
	for _, c := range all {
		seen[c]++
		if seen[c] > 1 {
			t.Fatalf("%q: memory is shared", in)
		}
	}
}

// roomySignature has spare room, with something in it.
func roomySignature(s api.Signature) api.Signature {
	room := append(make(api.Signature, 0, len(s)+3), s...)
	copy(room[len(room):cap(room)], exampleSignature()[2:])
	return room
}

// wrongSignatures are such that sig's Check refuses, or too short for the texts that are read.
func wrongSignatures() []api.Signature {
	return []api.Signature{
		nil,
		exampleSignature()[:1],
		{{}, {}, {}, {}, {}},
		{{Kind: api.AC, Name: "f"}, {Kind: api.ACU, Name: "a"}, {Kind: 4, Name: "plus"}, {Kind: -1, Name: "one"}, {Kind: math.MaxInt, Name: "times"}, {Kind: math.MinInt}},
		{{Name: "X", Kind: api.Free}, {Name: "(", Kind: api.Free, Arity: 2}, {Name: "a", Kind: api.Free, Arity: -3}, {Name: "\xff\xfe", Kind: api.AC}, {Name: "f", Kind: api.Free, Arity: math.MaxInt}},
		{{Name: "a", Kind: api.Free}, {Name: "a", Kind: api.AC}, {Name: "f", Kind: api.ACU, Unit: "f"}, {Name: "f", Kind: api.Free, Arity: 2}, {Name: strings.Repeat("f", 5000)}},
		slices.Repeat(exampleSignature(), 200),
	}
}

// P3, and P1 for signatures that are not right: what comes out is new memory, of which no two lists share any; the signature, and its spare room, stays as it was.
func TestMemoryOfReadings(t *testing.T) {
	m := newMaker(89)
	for _, s := range slices.Concat(signatures(), wrongSignatures()) {
		room := roomySignature(s)
		was := slices.Clone(room[:cap(room)])
		for i := range 400 {
			likely := signatures()[i%2]
			row := m.row(i%ways, likely, 25)
			if m.Intn(4) == 0 {
				row = m.spoilt(row)
			}
			in, _ := m.spaced(row)
			want := [ways]answer{}
			for way := range ways {
				want[way] = reading(t, way, room, in)
			}
			var all []any
			for range 2 {
				x, _, _ := text.Term(room, in)
				q, _, _ := text.Equation(room, in)
				l, _, _ := text.Binds(room, in)
				all = slices.Concat(all, cells(x.Args), cells(q.L.Args), cells(q.R.Args), bindCells(l))
				spoil(x.Args)
				spoil(q.L.Args)
				spoil(q.R.Args)
				spoilBinds(l)
			}
			wantApart(t, in, all)
			for way := range ways {
				if got := reading(t, way, room, in); got != want[way] {
					t.Fatalf("way %d of %q: %v, then %v", way, in, want[way], got)
				}
			}
			if !slices.Equal(room[:cap(room)], was) {
				t.Fatalf("%q: the signature was changed", in)
			}
		}
	}
}

// TestMemoryOfEqualParts: terms that are written alike come out apart, too.
func TestMemoryOfEqualParts(t *testing.T) {
	s := exampleSignature()
	q, _, _ := text.Equation(s, "f(f(X,a),f(X,a)) = f(f(X,a),f(X,a))")
	l, _, _ := text.Binds(s, "X -> f(X,a), X -> f(X,a), Y -> f(f(X,a),f(X,a))")
	if len(l) != 3 || len(q.R.Args) != 2 {
		t.Fatalf("%v, %v", q, l)
	}
	wantApart(t, "alike", slices.Concat(cells(q.L.Args), cells(q.R.Args), bindCells(l)))
}

// wrongTerm makes a term of which some nodes are wrong.
func (m maker) wrongTerm(s api.Signature, n int) api.Term {
	t := m.right(s, n)
	for range m.Intn(4) {
		at := &t
		for len(at.Args) > 0 && m.Intn(4) > 0 {
			at = &at.Args[m.Intn(len(at.Args))]
		}
		switch m.Intn(4) {
		case 0:
			at.Var = []string{"X", "x", "", "_0", "Abcdefghijklm", "\xff"}[m.Intn(6)]
		case 1:
			at.Sym = []int{-1, 0, 1, 4, 5, 99, math.MinInt, math.MaxInt}[m.Intn(8)]
		case 2:
			at.Args = at.Args[:m.Intn(len(at.Args)+1)]
		default:
			at.Args = slices.Insert(slices.Clone(at.Args), m.Intn(len(at.Args)+1), m.right(s, 3))
		}
	}
	return t
}

// P3, and P4 for what is not right: what is written hangs on what is handed in alone, and that stays as it was.
func TestMemoryOfShowing(t *testing.T) {
	m := newMaker(97)
	for _, s := range slices.Concat(signatures(), wrongSignatures()) {
		room := roomySignature(s)
		was := slices.Clone(room[:cap(room)])
		for i := range 300 {
			likely := signatures()[i%2]
			x, y := roomy(m.wrongTerm(likely, 20)), roomy(m.right(likely, 20))
			l := roomyBinds([]api.Bind{bind("X", x), bind("", y), bind("x", x)}[:m.Intn(4)])
			wasTerms := whole(x) + whole(y) + wholeBinds(l)
			told := func() string {
				return text.Show(room, x) + "; " + text.Show(room, y) + "; " + text.ShowEquation(room, api.Equation{L: x, R: y}) + "; " + text.ShowBinds(room, l)
			}
			if first, second := told(), told(); first != second {
				t.Fatalf("%s; then %s", first, second)
			}
			if whole(x)+whole(y)+wholeBinds(l) != wasTerms || !slices.Equal(room[:cap(room)], was) {
				t.Fatalf("changed: %s %s %s; was %s", whole(x), whole(y), wholeBinds(l), wasTerms)
			}
		}
	}
}

// P1: a signature of many symbols, and names that are looked for in it.
func TestManySymbols(t *testing.T) {
	s := slices.Repeat(wideSignature(), 20000)
	s = append(s, api.Symbol{Name: "last", Kind: api.AC, Arity: 2})
	x, e, at := text.Term(s, "last(last(X,Y),f22)")
	if want := sy(len(s)-1, sy(len(s)-1, v("X"), v("Y")), sy(3)); e != api.OK || at != 0 || written(x) != written(want) {
		t.Errorf("%s, %d at %d", written(x), e, at)
	}
	wantFaults(t, asTerm, s, []fault{{strings.Repeat("f(", 399) + "g", api.ErrTextSymbol, 798}})
}

// P3: an answer hangs on the arguments alone, not on what was asked ahead of it or is asked at the same time.
func TestNothingIsKept(t *testing.T) {
	s, other := exampleSignature(), wideSignature()
	var group sync.WaitGroup
	for range 8 {
		group.Go(func() {
			for range 200 {
				wantTerm(t, s, "f(X,plus(a,one))", sy(f, v("X"), sy(plus, sy(a), sy(one))))
				wantTerm(t, other, "f(X,X,f22,X)", sy(1, v("X"), v("X"), sy(3), v("X")))
				wantFaults(t, asTerm, s, []fault{{"f(X,f(a", api.ErrTextShort, 7}})
				wantEquation(t, s, "X = a", v("X"), sy(a))
				wantFaults(t, asBinds, other, []fault{{"X -> a", api.ErrTextSymbol, 5}})
				wantBinds(t, s, "X -> a", bind("X", sy(a)))
				wantBinds(t, s, "")
			}
		})
	}
	group.Wait()
}
