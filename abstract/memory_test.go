package abstract_test

import (
	"math"
	"slices"
	"strconv"
	"strings"
	"sync"
	"testing"

	"amalgam/abstract"
	"amalgam/api"
	"amalgam/canon"
	"amalgam/terms"
)

// roomy is a term of which each list has spare room, with something in it.
func roomy(t api.Term) api.Term {
	l := make([]api.Term, 0, len(t.Args)+2)
	for _, x := range t.Args {
		l = append(l, roomy(x))
	}
	copy(l[len(l):cap(l)], []api.Term{v("Spare"), sy(plus, v("Spare"), sy(a))})
	t.Args = l
	return t
}

func roomyUnknowns(in []api.Unknown) []api.Unknown {
	l := make([]api.Unknown, 0, len(in)+2)
	for _, x := range in {
		l = append(l, api.Unknown{T: roomy(x.T), N: x.N, Alien: x.Alien})
	}
	copy(l[len(l):cap(l)], []api.Unknown{unknown(v("X"), 1), unknown(sy(plus, v("Spare"), sy(a)), 71)})
	return l
}

// whole tells a term with its spare room.
func whole(t api.Term) string {
	var b strings.Builder
	writeWhole(&b, t)
	return b.String()
}

func writeWhole(b *strings.Builder, t api.Term) {
	b.WriteString(t.Var + "'" + strconv.Itoa(t.Sym) + "<")
	for _, x := range t.Args[:cap(t.Args)] {
		writeWhole(b, x)
	}
	b.WriteString(">")
}

func wholeUnknowns(l []api.Unknown) string {
	var b strings.Builder
	for _, x := range l[:cap(l)] {
		b.WriteString(strconv.Itoa(x.N) + strconv.FormatBool(x.Alien) + whole(x.T) + "; ")
	}
	return b.String()
}

// spoil writes on all memory of a list of terms, its spare room too.
func spoil(l []api.Term) {
	l = l[:cap(l)]
	for i, x := range l {
		spoil(x.Args)
		l[i] = api.Term{Var: "Spoilt", Sym: 66, Args: []api.Term{v("Spoilt")}}
	}
}

func spoilUnknowns(l []api.Unknown) {
	l = l[:cap(l)]
	for i, x := range l {
		spoil(x.T.Args)
		l[i] = unknown(sy(66, v("Spoilt")), 66)
	}
}

func spoilEquations(l []api.Equation) {
	l = l[:cap(l)]
	for i, x := range l {
		spoil(x.L.Args)
		spoil(x.R.Args)
		l[i] = api.Equation{L: sy(66, v("Spoilt")), R: v("Spoilt")}
	}
}

func spoilNumbers(l []int) {
	for i := range l[:cap(l)] {
		l[:cap(l)][i] = 66
	}
}

// cells are the addresses of all memory of a list of terms.
func cells(l []api.Term) []any {
	var all []any
	room := l[:cap(l)]
	for i := range room {
		all = append(all, &room[i])
		all = append(all, cells(room[i].Args)...)
	}
	return all
}

func cellsOfUnknowns(l []api.Unknown) []any {
	var all []any
	room := l[:cap(l)]
	for i := range room {
		all = append(all, &room[i])
		all = append(all, cells(room[i].T.Args)...)
	}
	return all
}

func cellsOfSum(x api.Sum) []any {
	all := slices.Concat(cellsOfUnknowns(x.Left), cellsOfUnknowns(x.Right))
	room := x.L[:cap(x.L)]
	for i := range room {
		all = append(all, &room[i])
		all = append(all, cells(room[i].L.Args)...)
		all = append(all, cells(room[i].R.Args)...)
	}
	return all
}

func cellsOfNumbers(l []int) []any {
	var all []any
	room := l[:cap(l)]
	for i := range room {
		all = append(all, &room[i])
	}
	return all
}

// wantApart: no cell is there twice.
func wantApart(t *testing.T, what string, all ...[]any) {
	t.Helper()
	seen := map[any]int{}
	for _, c := range slices.Concat(all...) {
		seen[c]++
		if seen[c] > 1 {
			t.Fatalf("%s: memory is shared", what)
		}
	}
}

// answer is what all calls answer, one behind the other.
type answer struct {
	unknowns, left, right []api.Unknown
	sum                   api.Sum
	no                    api.Errno
	counts, wants         []int
}

func ask(s api.Signature, sym int, e api.Equation, l, r []api.Unknown) answer {
	var x answer
	x.unknowns = abstract.Unknowns(s, sym, e.L)
	x.left, x.right = abstract.Cancel(l, r)
	x.sum, x.no = abstract.Pure(s, sym, e)
	x.counts, x.wants = abstract.Counts(l), abstract.Wants(l, r)
	return x
}

func (x answer) told() string {
	text := told(x.unknowns) + "/ " + told(x.left) + "/ " + told(x.right) + "/ " + toldSum(x.sum) + "/ " + strconv.Itoa(int(x.no))
	for _, n := range append(slices.Clone(x.counts), x.wants...) {
		text += " " + strconv.Itoa(n)
	}
	return text
}

func (x answer) cells() []any {
	return slices.Concat(cellsOfUnknowns(x.unknowns), cellsOfUnknowns(x.left), cellsOfUnknowns(x.right), cellsOfSum(x.sum), cellsOfNumbers(x.counts), cellsOfNumbers(x.wants))
}

func (x answer) spoil() {
	for _, l := range [][]api.Unknown{x.unknowns, x.left, x.right, x.sum.Left, x.sum.Right} {
		spoilUnknowns(l)
	}
	spoilEquations(x.sum.L)
	spoilNumbers(x.counts)
	spoilNumbers(x.wants)
}

// spoilt makes a term of which some nodes are wrong.
func (m maker) spoilt(s api.Signature, n int) api.Term {
	t := m.right(s, n)
	for range m.Intn(4) {
		at := &t
		for len(at.Args) > 0 && m.Intn(4) > 0 {
			at = &at.Args[m.Intn(len(at.Args))]
		}
		switch m.Intn(5) {
		case 0:
			at.Var = []string{"X", "x", "", "_0", "Abcdefghijklm"}[m.Intn(5)]
		case 1:
			at.Sym = []int{-1, 0, 1, 3, 5, 99, math.MinInt, math.MaxInt}[m.Intn(8)]
		case 2:
			at.Args = at.Args[:m.Intn(len(at.Args)+1)]
		default:
			at.Args = slices.Insert(slices.Clone(at.Args), m.Intn(len(at.Args)+1), m.right(s, 3))
		}
	}
	return t
}

// anyList makes a list of unknowns that need not be a side.
func (m maker) anyList(s api.Signature) []api.Unknown {
	var l []api.Unknown
	for range m.Intn(6) {
		n := []int{math.MinInt, -7, -1, 0, 1, 2, 3, 6, 7, math.MaxInt}[m.Intn(10)]
		l = append(l, api.Unknown{T: m.spoilt(s, 1+m.Intn(6)), N: n, Alien: m.Intn(2) == 0})
	}
	return l
}

// wrongSignatures are such that sig's Check refuses.
func wrongSignatures() []api.Signature {
	return []api.Signature{
		nil,
		{},
		example()[:5][1:],
		{{}, {}, {}, {}, {}},
		{{Kind: api.AC}, {Kind: api.ACU}, {Kind: 4}, {Kind: -1}, {Kind: math.MaxInt}, {Kind: math.MinInt}},
		{{Name: "u", Kind: api.ACU, Unit: "u"}, {Name: "v", Kind: api.ACU, Unit: "w"}, {Name: "w", Kind: api.ACU, Unit: "v"}, {Name: "z", Kind: api.ACU, Unit: "none"}},
		{{Name: "u", Kind: api.AC, Arity: 7}, {Name: "v", Kind: api.ACU, Unit: "u"}, {Name: "f", Kind: api.Free, Arity: -3}, {Name: "w", Kind: api.ACU, Unit: "f"}},
		slices.Repeat(example(), 200),
	}
}

// P1, P3, and P4 for what is not right: what is handed in, and its spare room, stays as it was; what comes out is new memory, of which no two lists share any, and the same each time.
func TestMemory(t *testing.T) {
	for _, s := range slices.Concat(signatures(), wrongSignatures()) {
		m := newMaker(141)
		room := append(make(api.Signature, 0, len(s)+3), s...)
		copy(room[len(room):cap(room)], example()[3:])
		wasRoom := slices.Clone(room[:cap(room)])
		for i := range 150 {
			likely := signatures()[i%3]
			few := []api.Term{v("X"), v("Y"), m.right(likely, 5), m.right(likely, 8)}
			sym := []int{plus, 0, times}[i%3]
			e := api.Equation{L: m.sum(likely, sym, few), R: m.sum(likely, sym, few)}
			l, r := arguments(likely, sym, e.L), arguments(likely, sym, e.R)
			if i%4 == 0 {
				e, l, r = api.Equation{L: m.spoilt(likely, 20), R: m.spoilt(likely, 20)}, m.anyList(likely), m.anyList(likely)
			}
			e, l, r = api.Equation{L: roomy(e.L), R: roomy(e.R)}, roomyUnknowns(l), roomyUnknowns(r)
			was := whole(e.L) + whole(e.R) + wholeUnknowns(l) + wholeUnknowns(r)
			for _, sym := range append(noSums(), plus, times) {
				first, second := ask(room, sym, e, l, r), ask(room, sym, e, l, r)
				wantApart(t, "answers", first.cells(), second.cells(), cells(e.L.Args), cells(e.R.Args), cellsOfUnknowns(l), cellsOfUnknowns(r))
				if first.told() != second.told() {
					t.Fatalf("two answers: %s; %s", first.told(), second.told())
				}
				text := second.told()
				first.spoil()
				if second.told() != text {
					t.Fatalf("spoilt by another answer: %s; was %s", second.told(), text)
				}
			}
			if now := whole(e.L) + whole(e.R) + wholeUnknowns(l) + wholeUnknowns(r); now != was || !slices.Equal(room[:cap(room)], wasRoom) {
				t.Fatalf("changed: %s; was %s", now, was)
			}
		}
	}
}

// TestSharedComesOutApart: sides and arguments that share memory come out apart.
func TestSharedComesOutApart(t *testing.T) {
	s := example()
	in := sy(f, v("X"), sy(times, v("X"), v("Y")))
	other := sy(g, in)
	l := []api.Unknown{unknown(in, 3), unknown(other, 2)}
	left, right := abstract.Cancel(l, l[1:])
	wantApart(t, "Cancel", cells(other.Args), cellsOfUnknowns(left), cellsOfUnknowns(right))
	left, right = abstract.Cancel(l, nil)
	wantApart(t, "Cancel of one side alone", cells(other.Args), cellsOfUnknowns(left), cellsOfUnknowns(right))
	left, right = abstract.Cancel(nil, l)
	wantApart(t, "Cancel of one side alone", cells(other.Args), cellsOfUnknowns(left), cellsOfUnknowns(right))
	for _, e := range []api.Equation{
		{L: in, R: other}, {L: in, R: in}, {L: other, R: sy(plus, in, in)}, {L: sy(plus, in, in), R: other},
		{L: sy(plus, in, in), R: sy(plus, other, other)}, {L: sy(plus, v("X"), in, in), R: sy(plus, in, other, other)},
	} {
		sum, no := abstract.Pure(s, plus, e)
		if no != api.OK {
			t.Fatalf("%s = %s: %d", written(e.L), written(e.R), no)
		}
		wantApart(t, "Pure", cells(other.Args), cellsOfSum(sum), cellsOfUnknowns(abstract.Unknowns(s, plus, e.L)))
	}
}

// P3: an answer hangs on the arguments alone, not on what was asked ahead of it or is asked at the same time.
func TestNothingIsKept(t *testing.T) {
	s := example()
	e := equation(t, "plus(X,X,a) = plus(X,Y,b)")
	l, r := unknowns(t, "2 X 1 a"), unknowns(t, "1 X 1 Y 2 a")
	want := ask(s, plus, e, l, r).told()
	var group sync.WaitGroup
	for range 8 {
		group.Go(func() {
			for range 100 {
				if got := ask(s, plus, e, l, r).told(); got != want {
					t.Errorf("at the same time: %s; want %s", got, want)
				}
				ask(s, times, api.Equation{L: e.R, R: e.L}, r, l)
				ask(s, -1, e, nil, l)
			}
		})
	}
	group.Wait()
	if got := ask(s, plus, e, l, r).told(); got != want {
		t.Errorf("behind: %s; want %s", got, want)
	}
}

// TestDeepTerms: P1 for terms as deep as the document's bound allows.
func TestDeepTerms(t *testing.T) {
	s := example()
	deep := v("X")
	for i := range 1<<16 - 4 {
		deep = sy([]int{f, plus, f, times}[i%4], v("X"), deep)
	}
	deep = sy(g, deep)
	e := api.Equation{L: canon.Canon(s, sy(plus, deep, v("X"), v("Y"))), R: sy(plus, v("X"), deep)}
	if sum, no := abstract.Pure(s, plus, e); sum.Act != api.Fail || no != api.OK {
		t.Errorf("a deep term that is cancelled: %d, %d", sum.Act, no)
	}
	e.R = sy(plus, v("Z"), v("Z"))
	sum, no := abstract.Pure(s, plus, e)
	if sum.Act != api.Pure || no != api.OK || len(sum.Left) != 3 || !terms.Same(sum.Left[2].T, deep) {
		t.Errorf("a deep alien: %d, %d", sum.Act, no)
	}
	sum, no = abstract.Pure(s, plus, api.Equation{L: deep, R: v("X")})
	if sum.Act != api.Parts || no != api.OK || !terms.Same(sum.L[0].L, deep) {
		t.Errorf("a deep term alone: %d, %d", sum.Act, no)
	}
	wrong := v("X")
	for i := range 1<<16 - 2 {
		wrong = api.Term{Var: []string{"", "x"}[i/100%2], Sym: i%7 - 1, Args: []api.Term{wrong}}
	}
	for _, sym := range []int{plus, times, f, -1} {
		abstract.Pure(s, sym, api.Equation{L: wrong, R: sy(plus, wrong, wrong)})
		abstract.Unknowns(s, sym, wrong)
	}
}

// TestWideSums: P1 for sums much longer than a linear equation has them.
func TestWideSums(t *testing.T) {
	s := example()
	const n = 100000
	l := slices.Concat(slices.Repeat([]api.Term{v("X")}, n), slices.Repeat([]api.Term{sy(a)}, n))
	e := api.Equation{L: sy(plus, l...), R: v("Z")}
	sum, no := abstract.Pure(s, plus, e)
	if sum.Act != api.Parts || no != api.OK || !terms.Same(sum.L[0].L, e.L) || sum.L[0].R.Var != "Z" {
		t.Errorf("a wide sum and one term: %d, %d", sum.Act, no)
	}
	e.R = sy(plus, v("Y"), v("Z"))
	if sum, no := abstract.Pure(s, plus, e); toldSum(sum) != toldSum(api.Sum{}) || no != api.ErrTooMany {
		t.Errorf("a wide sum: %d, %d", sum.Act, no)
	}
	e.R = sy(plus, append(l[1:n:n], sy(b))...)
	sum, no = abstract.Pure(s, plus, e)
	if sum.Act != api.Parts || no != api.OK || len(sum.L[0].L.Args) != n+1 || sum.L[0].R.Sym != b {
		t.Errorf("two wide sums: %d, %d", sum.Act, no)
	}
}
