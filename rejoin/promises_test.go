package rejoin_test

import (
	"slices"
	"testing"

	"amalgam/abstract"
	"amalgam/api"
	"amalgam/canon"
	"amalgam/linsolve"
	"amalgam/pick"
	"amalgam/rejoin"
	"amalgam/sig"
	"amalgam/terms"
)

// counted are the unknowns of both sides' counts: X0 and so on.
func counted(left, right []int) []api.Unknown {
	l := named(len(left) + len(right))
	for i, n := range slices.Concat(left, right) {
		l[i].N = n
	}
	return l
}

// sides are the sums that equations make of the first so many unknowns, and of the others, each as often as it stands.
func sides(x sum, l []api.Unknown, made []api.Equation, left int) (api.Term, api.Term) {
	var both [2][]api.Term
	for i, u := range l {
		side := 0
		if i >= left {
			side = 1
		}
		both[side] = append(both[side], slices.Repeat([]api.Term{made[i].R}, u.N)...)
	}
	one, _ := canon.Join(x.s, x.sym, both[0])
	other, _ := canon.Join(x.s, x.sym, both[1])
	return one, other
}

// fit: are both sides' sums equal modulo associativity and commutativity? Both must be there: what each unknown is equal to is answered.
func fit(t *testing.T, x sum, l []api.Unknown, rows [][]int, left int) bool {
	t.Helper()
	made, fresh, e := rejoin.Equations(x.s, x.sym, l, rows, 9)
	if e != api.OK || fresh != 9+len(rows) || len(made) != len(l) {
		t.Fatalf("of %d unknowns, rows %v: %d, %d", len(l), rows, fresh, e)
	}
	for i, u := range l {
		if !terms.Same(made[i].L, u.T) {
			t.Fatalf("equation %d is of %s", i, written(made[i].L))
		}
	}
	one, other := sides(x, l, made, left)
	return canon.Equal(sig.Plain(x.s), one, other)
}

// coefficients are all lists of one or two numbers up to so great, and some longer ones.
func coefficients(most int) [][]int {
	l := [][]int{{1, 1, 1}, {1, 2, 3}, {6, 5, 4}, {2, 2, 2, 2}, {1, 1, 1, 1, 1}, {1, 2, 3, 4, 6}}
	for i := 1; i <= most; i++ {
		l = append(l, []int{i})
		for j := 1; j <= most; j++ {
			l = append(l, []int{i, j})
		}
	}
	return l
}

// P14.2 (they fit), of minimal solutions: of those subsets that give each unknown some row.
func TestP142(t *testing.T) {
	met := 0
	for _, x := range sums() {
		for _, left := range coefficients(4) {
			for _, right := range coefficients(4) {
				basis, e := linsolve.Basis(left, right)
				if e != api.OK {
					continue
				}
				l := counted(left, right)
				asked := 0
				for mask := range pick.All(basis, all(api.WantSome, len(l))) {
					if asked++; asked > 12 {
						break
					}
					met++
					if rows := pick.Picked(basis, mask); !fit(t, x, l, rows, len(left)) {
						t.Fatalf("%v and %v by the rows %v", left, right, rows)
					}
				}
			}
		}
	}
	if met < 5000 {
		t.Errorf("only %d subsets were met", met)
	}
}

// P14.2, of any solutions: sums of minimal ones, the same one several times, and one that is all 0.
func TestP142OfAnySolutions(t *testing.T) {
	m := newMaker(240)
	met := 0
	for _, x := range sums() {
		for range 600 {
			left, right := m.side(), m.side()
			basis := slices.Collect(linsolve.All(left, right))
			l := counted(left, right)
			var rows [][]int
			for range 1 + m.Intn(16) {
				rows = append(rows, m.solution(basis, len(l)))
			}
			_, _, e := rejoin.Equations(x.s, x.sym, l, rows, 9)
			if e == api.ErrRejoinEmpty || e == api.ErrTooMany {
				continue
			}
			met++
			if !fit(t, x, l, rows, len(left)) {
				t.Fatalf("%v and %v by the rows %v", left, right, rows)
			}
		}
	}
	if met < 1500 {
		t.Errorf("only %d were met", met)
	}
}

func (m maker) side() []int {
	var l []int
	for range 1 + m.Intn(5) {
		l = append(l, 1+m.Intn(6))
	}
	return l
}

// solution makes the sum of some minimal solutions, or of none.
func (m maker) solution(basis [][]int, width int) []int {
	v := make([]int, width)
	for range m.Intn(4) {
		for i, n := range basis[m.Intn(len(basis))] {
			v[i] += n
		}
	}
	return v
}

// TestOthersDoNotFit: a row that is no solution makes sides that are not equal, so the tests of P14.2 can tell.
func TestOthersDoNotFit(t *testing.T) {
	m := newMaker(250)
	for _, x := range sums() {
		for range 500 {
			left, right := m.side(), m.side()
			l := counted(left, right)
			rows := [][]int{all(1, len(l)), m.rows(1, len(l))[0]}
			_, _, e := rejoin.Equations(x.s, x.sym, l, rows, 9)
			if e != api.OK {
				continue
			}
			solve := linsolve.Solves(left, right, rows[0]) && linsolve.Solves(left, right, rows[1])
			if fit(t, x, l, rows, len(left)) != solve {
				t.Fatalf("%v and %v by the rows %v: %v", left, right, rows, !solve)
			}
		}
	}
}

// TestP142OfEquations: from an equation of sums to what stands in its place, as whoever solves goes.
func TestP142OfEquations(t *testing.T) {
	s := sig.Plain(example())
	for _, c := range []struct {
		l, r string
		many int
	}{
		{"plus(X,Y)", "plus(Z,W)", 7}, {"plus(X,Y)", "plus(Z,a)", 4}, {"plus(X,a)", "plus(Y,b)", 3}, {"plus(X,X)", "plus(Y,Y,Y)", 1}, {"plus(X,a)", "plus(Y,Y)", 2}, {"plus(a,a)", "plus(b,b)", 1},
	} {
		e := api.Equation{L: canon.Canon(s, term(t, c.l)), R: canon.Canon(s, term(t, c.r))}
		pure, no := abstract.Pure(s, plus, e)
		if pure.Act != api.Pure || no != api.OK {
			t.Fatalf("%s and %s: %d, %d", c.l, c.r, pure.Act, no)
		}
		basis, _ := linsolve.Basis(abstract.Counts(pure.Left), abstract.Counts(pure.Right))
		l := slices.Concat(pure.Left, pure.Right)
		many := 0
		for mask := range pick.All(basis, abstract.Wants(pure.Left, pure.Right)) {
			many++
			made, _, _ := rejoin.Equations(s, plus, l, pick.Picked(basis, mask), 0)
			if !fit(t, sum{s, plus}, l, pick.Picked(basis, mask), len(pure.Left)) {
				t.Errorf("%s and %s by the mask %d", c.l, c.r, mask)
			}
			for i, u := range l {
				if u.Alien && made[i].R.Var == "" {
					t.Errorf("%s and %s by the mask %d: an alien is %s", c.l, c.r, mask, written(made[i].R))
				}
			}
		}
		if many != c.many {
			t.Errorf("%s and %s: %d masks", c.l, c.r, many)
		}
	}
}

// TestSidesAreCanonical: a right side is canonical by the signature, and by the plain one; it has no variables but fresh ones behind the first so many.
func TestSidesAreCanonical(t *testing.T) {
	for i, x := range sums() {
		m := newMaker(int64(260 + i))
		for range 300 {
			width := 1 + m.Intn(5)
			vectors := append(m.rows(m.Intn(15), width), all(1, width))
			got := ask(x.s, x.sym, m.unknowns(x.s, width), vectors, 95)
			for _, q := range got.l {
				if !canon.Is(x.s, q.R) || !canon.Is(sig.Plain(x.s), q.R) {
					t.Fatalf("not canonical: %s", written(q.R))
				}
				for _, name := range terms.Vars(q.R) {
					if n, ok := rejoin.Number(name); !ok || n <= 95 || n > got.fresh {
						t.Fatalf("%s of %d to %d", name, 96, got.fresh)
					}
				}
			}
		}
	}
}
