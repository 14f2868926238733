package rejoin_test

import (
	"math"
	"slices"
	"strconv"
	"strings"
	"sync"
	"testing"

	"amalgam/api"
	"amalgam/rejoin"
	"amalgam/terms"
)

// roomy is a term of which each list has spare room, with something in it.
func roomy(t api.Term) api.Term {
	l := make([]api.Term, 0, len(t.Args)+2)
	for _, x := range t.Args {
		l = append(l, roomy(x))
	}
	copy(l[len(l):cap(l)], []api.Term{v("Spare"), sy(plus, v("Spare"), sy(a))})
	t.Args = l
	return t
}

func roomyUnknowns(in []api.Unknown) []api.Unknown {
	l := make([]api.Unknown, 0, len(in)+2)
	for _, x := range in {
		l = append(l, api.Unknown{T: roomy(x.T), N: x.N, Alien: x.Alien})
	}
	copy(l[len(l):cap(l)], []api.Unknown{{T: v("X"), N: 1}, {T: sy(plus, v("Spare"), sy(a)), N: 71}})
	return l
}

// roomyRows have spare room in each row, and behind the last one a row that may not be.
func roomyRows(in [][]int) [][]int {
	l := make([][]int, 0, len(in)+2)
	for _, row := range in {
		room := append(make([]int, 0, len(row)+3), row...)
		copy(room[len(room):cap(room)], []int{-7, 1 << 40, 1})
		l = append(l, room)
	}
	copy(l[len(l):cap(l)], [][]int{{-1, 7}, nil})
	return l
}

// whole tells unknowns and rows with all their spare room.
func whole(l []api.Unknown, rows [][]int) string {
	var b strings.Builder
	for _, x := range l[:cap(l)] {
		b.WriteString(strconv.Itoa(x.N) + strconv.FormatBool(x.Alien))
		writeWhole(&b, x.T)
	}
	for _, row := range rows[:cap(rows)] {
		b.WriteString("; ")
		for _, n := range row[:cap(row)] {
			b.WriteString(strconv.Itoa(n) + " ")
		}
		b.WriteString(strconv.Itoa(len(row)))
	}
	return b.String()
}

func writeWhole(b *strings.Builder, t api.Term) {
	b.WriteString(t.Var + "'" + strconv.Itoa(t.Sym) + "<")
	for _, x := range t.Args[:cap(t.Args)] {
		writeWhole(b, x)
	}
	b.WriteString(">" + strconv.Itoa(len(t.Args)))
}

// spoil writes on all memory of a list of terms, its spare room too.
func spoil(l []api.Term) {
	l = l[:cap(l)]
	for i, x := range l {
		spoil(x.Args)
		l[i] = api.Term{Var: "Spoilt", Sym: 66, Args: []api.Term{v("Spoilt")}}
	}
}

func (x answer) spoil() {
	l := x.l[:cap(x.l)]
	for i, q := range l {
		spoil(q.L.Args)
		spoil(q.R.Args)
		l[i] = api.Equation{L: sy(66, v("Spoilt")), R: v("Spoilt")}
	}
}

// cells are the addresses of all memory of a list of terms.
func cells(l []api.Term) []any {
	var all []any
	room := l[:cap(l)]
	for i := range room {
		all = append(all, &room[i])
		all = append(all, cells(room[i].Args)...)
	}
	return all
}

func (x answer) cells() []any {
	var all []any
	room := x.l[:cap(x.l)]
	for i := range room {
		all = append(all, &room[i])
		all = append(all, cells(room[i].L.Args)...)
		all = append(all, cells(room[i].R.Args)...)
	}
	return all
}

func cellsOfUnknowns(l []api.Unknown) []any {
	var all []any
	room := l[:cap(l)]
	for i := range room {
		all = append(all, &room[i])
		all = append(all, cells(room[i].T.Args)...)
	}
	return all
}

// wantApart: no cell is there twice.
func wantApart(t *testing.T, what string, all ...[]any) {
	t.Helper()
	seen := map[any]int{}
	for _, c := range slices.Concat(all...) {
		seen[c]++
		if seen[c] > 1 {
			t.Fatalf("%s: memory is shared", what)
		}
	}
}

// spoilt makes a term of which some nodes are wrong.
func (m maker) spoilt(s api.Signature, n int) api.Term {
	t := m.right(s, n)
	for range m.Intn(4) {
		at := &t
		for len(at.Args) > 0 && m.Intn(4) > 0 {
			at = &at.Args[m.Intn(len(at.Args))]
		}
		switch m.Intn(4) {
		case 0:
			at.Var = []string{"X", "Y", "x", "", "_0", "Abcdefghijklm"}[m.Intn(6)]
		case 1:
			at.Sym = []int{-1, 0, 1, 3, 5, 99, math.MinInt, math.MaxInt}[m.Intn(8)]
		case 2:
			at.Args = at.Args[:m.Intn(len(at.Args)+1)]
		default:
			at.Args = slices.Insert(slices.Clone(at.Args), m.Intn(len(at.Args)+1), m.right(s, 3))
		}
	}
	return t
}

// wrongSignatures are such that sig's Check refuses.
func wrongSignatures() []api.Signature {
	return []api.Signature{
		nil,
		{},
		example()[1:],
		{{}, {}, {}, {}, {}},
		{{Kind: api.AC}, {Kind: api.ACU}, {Kind: 4}, {Kind: -1}, {Kind: math.MaxInt}, {Kind: math.MinInt}},
		{{Name: "u", Kind: api.ACU, Unit: "u"}, {Name: "v", Kind: api.ACU, Unit: "w"}, {Name: "w", Kind: api.ACU, Unit: "v"}, {Name: "z", Kind: api.ACU, Unit: "none"}},
		{{Name: "u", Kind: api.AC, Arity: 7}, {Name: "v", Kind: api.ACU, Unit: "u"}, {Name: "f", Kind: api.Free, Arity: -3}, {Name: "w", Kind: api.ACU, Unit: "f"}},
		slices.Repeat(example(), 200),
	}
}

func signatures() []api.Signature {
	return slices.Concat([]api.Signature{example(), sumFirst()}, wrongSignatures())
}

// P1, P3, and P4 for what is not right: what is handed in, and its spare room, stays as it was; what comes out is new memory, of which no two lists share any, and the same each time; beside an error there is nothing.
func TestMemory(t *testing.T) {
	answered := 0
	for _, s := range signatures() {
		m := newMaker(280)
		room := append(make(api.Signature, 0, len(s)+3), s...)
		copy(room[len(room):cap(room)], example()[3:])
		wasRoom := slices.Clone(room[:cap(room)])
		for i := range 200 {
			width := m.Intn(6)
			l, vectors := m.unknowns(example(), width), append(m.rows(m.Intn(16), width), all(1, width))
			if i%4 == 0 {
				for j := range l {
					l[j].T = m.spoilt(example(), 12)
				}
			}
			l, vectors = roomyUnknowns(l), roomyRows(vectors)
			was := whole(l, vectors)
			for _, sym := range []int{-1, 0, 1, 2, 3, 4, 1199, math.MaxInt, math.MinInt} {
				first, second := ask(room, sym, l, vectors, i), ask(room, sym, l, vectors, i)
				wantApart(t, "answers", first.cells(), second.cells(), cellsOfUnknowns(l))
				if first.told() != second.told() {
					t.Fatalf("two answers: %s; %s", first.told(), second.told())
				}
				if first.e != api.OK {
					wantError(t, "not nothing", first, first.e)
				} else {
					answered++
				}
				told := second.told()
				first.spoil()
				if second.told() != told {
					t.Fatalf("spoilt by another answer: %s; was %s", second.told(), told)
				}
				second.spoil()
			}
			if now := whole(l, vectors); now != was || !slices.Equal(room[:cap(room)], wasRoom) {
				t.Fatalf("changed: %s; was %s", now, was)
			}
		}
	}
	if answered < 1000 {
		t.Errorf("only %d were answered", answered)
	}
}

// TestSharedComesOutApart: one term of several unknowns, and one row at several places.
func TestSharedComesOutApart(t *testing.T) {
	in := sy(f, v("X"), sy(times, v("X"), sy(f, v("Y"), v("Y"))))
	u := api.Unknown{T: in, N: 1, Alien: true}
	l := []api.Unknown{u, u, u, {T: in.Args[1]}, {T: in.Args[1].Args[1]}}
	row := []int{1, 1, 2, 2, 1}
	for many := 1; many <= 16; many++ {
		vectors := slices.Repeat([][]int{row}, many)
		got := ask(example(), plus, l, vectors, 0)
		wantApart(t, "Equations", got.cells(), cells(in.Args))
		wantSaidAgain(t, example(), plus, l, vectors, 0)
	}
}

// P3: an answer hangs on the arguments alone, not on what was asked ahead of it or is asked at the same time.
func TestNothingIsKept(t *testing.T) {
	s := example()
	l, vectors := unknowns(t, "X a f(X,a)"), rows(t, "1 0 2; 0 1 1; 3 0 0")
	want, wantOther := ask(s, plus, l, vectors, 4).told(), ask(s, times, l[1:], rows(t, "1 1"), 120).told()
	var group sync.WaitGroup
	for range 8 {
		group.Go(func() {
			for i := range 200 {
				if ask(s, plus, l, vectors, 4).told() != want || ask(s, times, l[1:], [][]int{{1, 1}}, 120).told() != wantOther {
					t.Error("another answer at the same time")
				}
				ask(s, plus, l, vectors, -1)
				if n, ok := rejoin.Number(rejoin.Name(i + 1)); n != i+1 || !ok {
					t.Errorf("%d: %d, %v", i+1, n, ok)
				}
			}
		})
	}
	group.Wait()
	if got := ask(s, plus, l, vectors, 4).told(); got != want {
		t.Errorf("behind: %s; want %s", got, want)
	}
	vectors[0][0], l[0].T.Var = 5, "Y"
	if got := ask(s, plus, l, vectors, 4); got.told() == want || got.told() != saidAgain(s, plus, l, vectors, 4).told() {
		t.Errorf("of other rows: %s", got.told())
	}
}

// TestDeepTerms: P1 for terms as deep as the document's bound allows.
func TestDeepTerms(t *testing.T) {
	deep, wrong := v("X"), v("X")
	for i := range 1<<16 - 4 {
		deep = sy([]int{f, plus, f, times}[i%4], v("X"), deep)
		wrong = api.Term{Var: []string{"", "x"}[i/100%2], Sym: i%7 - 1, Args: []api.Term{wrong}}
	}
	for _, x := range []api.Term{deep, wrong} {
		got := ask(example(), plus, []api.Unknown{{T: x, N: 1, Alien: true}, {T: v("X"), N: 1}}, rows(t, "1 1; 0 1"), 0)
		if got.e != api.OK || got.fresh != 2 || len(got.l) != 2 || !terms.Same(got.l[0].L, x) || got.l[0].R.Var != "_1" {
			t.Errorf("a deep term: %d, %d", got.fresh, got.e)
		}
	}
}

// TestManyUnknowns: there is no bound for them.
func TestManyUnknowns(t *testing.T) {
	const n = 20000
	l, vectors := named(n), same(16, 1, n)
	if e := wantSaidAgain(t, example(), plus, l, vectors, 0); e != api.OK {
		t.Errorf("%d unknowns: %d", n, e)
	}
	for i := range vectors {
		vectors[i][n-1] = 0
	}
	wantError(t, "the last one empty", ask(example(), plus, l, vectors, 0), api.ErrRejoinEmpty)
	vectors[3][n-1] = 400
	wantError(t, "the last one too often", ask(example(), plus, l, vectors, 0), api.ErrTooMany)
	vectors[15] = vectors[15][:n-1]
	wantError(t, "the last row too short", ask(example(), plus, l, vectors, 0), api.ErrRejoinRow)
}
