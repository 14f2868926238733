package abstract_test

import (
	"math"
	"slices"
	"strings"
	"testing"

	"amalgam/abstract"
	"amalgam/api"
	"amalgam/canon"
	"amalgam/sig"
)

func wantPure(t *testing.T, s api.Signature, sym int, e api.Equation, want api.Sum, no api.Errno) {
	t.Helper()
	x, err := abstract.Pure(s, sym, e)
	if toldSum(x) != toldSum(want) || err != no {
		t.Errorf("Pure by %d of %s = %s: %s, %d; want %s, %d", sym, written(e.L), written(e.R), toldSum(x), err, toldSum(want), no)
	}
}

func wantParts(t *testing.T, sym int, line, parts string) {
	t.Helper()
	wantPure(t, example(), sym, equation(t, line), api.Sum{Act: api.Parts, L: []api.Equation{equation(t, parts)}}, api.OK)
}

func wantSides(t *testing.T, sym int, line, left, right string) {
	t.Helper()
	wantPure(t, example(), sym, equation(t, line), api.Sum{Act: api.Pure, Left: unknowns(t, left), Right: unknowns(t, right)}, api.OK)
}

func wantAct(t *testing.T, sym int, line string, act api.Act, no api.Errno) {
	t.Helper()
	wantPure(t, example(), sym, equation(t, line), api.Sum{Act: act}, no)
}

// P12.1: the chapter's table of examples.
func TestP121Examples(t *testing.T) {
	wantSides(t, plus, "plus(X,X,a) = plus(X,Y,b)", "1 X 1 a", "1 Y 1 b")
	wantAct(t, plus, "plus(X,a) = plus(X,a)", api.Done, api.OK)
	wantAct(t, plus, "plus(X,a) = plus(X,a,Y)", api.Fail, api.OK)
	wantParts(t, plus, "plus(X,Y) = plus(X,a,b)", "Y = plus(a,b)")
	wantParts(t, plus, "plus(a,b) = plus(a,X)", "b = X")
	wantAct(t, plus, "plus(X,X,X,X,X,X,X) = plus(Y,Z)", 0, api.ErrTooMany)
	for _, sym := range []int{2, 9} {
		wantAct(t, sym, "plus(X,a) = plus(X,a)", 0, api.ErrAbstractSym)
	}
}

// P12.1: each row of the table, the first and the last ones of their kind.
func TestPureDoneAndFail(t *testing.T) {
	for _, line := range []string{
		"X = X", "a = a", "f(X,a) = f(X,a)", "times(X,Y) = times(Y,X)", "plus(X,Y) = plus(Y,X)", "plus(X,X,a,b) = plus(X,a,plus(b,X))",
		"plus(A,B,C,D,E,F,G) = plus(G,F,E,D,C,B,A)", "plus(a,a,a,a,a,a,a) = plus(a,a,a,a,a,a,a)",
	} {
		wantAct(t, plus, line, api.Done, api.OK)
	}
	for _, line := range []string{
		"X = plus(X,a)", "plus(X,X) = X", "a = plus(a,X)", "plus(X,Y) = plus(X,Y,Z)", "plus(X,Y,a) = plus(X,Y)", "plus(X,Y) = plus(X,X,Y,Y,a)",
		"a = plus(a,A,B,C,D,E,F,G)", "plus(X,X,X,X,X,X,X,X) = X", "f(X,a) = plus(f(X,a),X)",
	} {
		wantAct(t, plus, line, api.Fail, api.OK)
	}
}

func TestPureParts(t *testing.T) {
	for _, c := range []struct{ line, parts string }{
		// One unknown on the left.
		{"X = Y", "X = Y"},
		{"a = b", "a = b"},
		{"X = plus(Y,Z)", "X = plus(Y,Z)"},
		{"a = plus(Y,Z)", "a = plus(Y,Z)"},
		{"a = f(X,X)", "a = f(X,X)"},
		{"X = f(X,X)", "X = f(X,X)"},
		{"X = plus(f(X,a),a)", "X = plus(f(X,a),a)"},
		{"X = plus(Y,Y)", "X = plus(Y,Y)"},
		{"plus(X,X) = plus(X,Y,Y)", "X = plus(Y,Y)"},
		{"plus(X,Y,a) = plus(X,a,b,b,Z)", "Y = plus(Z,b,b)"},
		{"plus(X,X,X) = plus(X,X,a,times(a,b))", "X = plus(a,times(a,b))"},
		// As many as there are on the other side, and as often.
		{"X = plus(A,B,C,D,E,F)", "X = plus(A,B,C,D,E,F)"},
		{"X = plus(a,a,a,a,a,a,a)", "X = plus(a,a,a,a,a,a,a)"},
		{"plus(a,b) = plus(b,A,A,A,A,A,A,A,B,C,D,E,F,G)", "a = plus(A,A,A,A,A,A,A,B,C,D,E,F,G)"},
		// One unknown on the right.
		{"plus(Y,Z) = X", "plus(Y,Z) = X"},
		{"plus(Y,Z) = a", "plus(Y,Z) = a"},
		{"plus(Y,Y) = X", "plus(Y,Y) = X"},
		{"plus(X,Y,Y) = plus(X,X)", "plus(Y,Y) = X"},
		{"plus(X,a,b,b,Z) = plus(X,Y,a)", "plus(Z,b,b) = Y"},
		{"plus(A,B,C,D,E,F) = X", "plus(A,B,C,D,E,F) = X"},
		{"plus(a,a,a,a,a,a,a) = X", "plus(a,a,a,a,a,a,a) = X"},
		{"plus(a,b,X) = plus(a,Z)", "plus(X,b) = Z"},
		// Several of one unknown are not one.
		{"plus(X,X) = Y", "plus(X,X) = Y"},
		{"plus(X,X) = plus(X,Y)", "X = Y"},
		// Of two sides that have one unknown each it is the left one: the right one's Join is that alone.
		{"plus(X,b) = plus(X,a)", "b = a"},
		{"plus(f(X,a),Y) = plus(Y,times(X,Y))", "f(X,a) = times(X,Y)"},
	} {
		wantParts(t, plus, c.line, c.parts)
	}
}

func TestPureSides(t *testing.T) {
	for _, c := range []struct{ line, left, right string }{
		{"plus(X,Y) = plus(Z,W)", "1 X 1 Y", "1 W 1 Z"},
		{"plus(X,X) = plus(Y,Y)", "2 X", "2 Y"},
		{"plus(X,X) = plus(Y,Z)", "2 X", "1 Y 1 Z"},
		{"plus(Y,Z) = plus(a,a)", "1 Y 1 Z", "2 a"},
		{"plus(a,b) = plus(one,one)", "1 a 1 b", "2 one"},
		{"plus(X,X,X,a) = plus(X,b,f(X,a))", "2 X 1 a", "1 f(X,a) 1 b"},
		{"plus(X,X,X,a) = plus(X,f(X,plus(X,a)),f(X,plus(a,X)))", "2 X 1 a", "2 f(X,plus(X,a))"},
		{"plus(times(X,Y),times(Y,X)) = plus(X,Y)", "2 times(X,Y)", "1 X 1 Y"},
	} {
		wantSides(t, plus, c.line, c.left, c.right)
	}
}

// names are so many variables, each so often, as arguments are written.
func names(first rune, many, often int) string {
	var l []string
	for n := range many {
		l = append(l, slices.Repeat([]string{string(first + rune(n))}, often)...)
	}
	return strings.Join(l, ",")
}

// TestPureTooMany: "more than MaxSide (5) unknowns, or an N above MaxCoeff (6)", of either side, when they are cancelled.
func TestPureTooMany(t *testing.T) {
	for _, c := range []struct {
		side string
		no   api.Errno
	}{
		{names('A', 5, 1), api.OK},
		{names('A', 6, 1), api.ErrTooMany},
		{names('A', 7, 1), api.ErrTooMany},
		{names('A', 1, 6), api.OK},
		{names('A', 1, 7), api.ErrTooMany},
		{names('A', 1, 8), api.ErrTooMany},
		{names('A', 5, 6), api.OK},
		{names('A', 5, 6) + ",A", api.ErrTooMany},
		{names('A', 5, 6) + ",C", api.ErrTooMany},
		{names('A', 5, 6) + ",E", api.ErrTooMany},
		{names('A', 6, 6), api.ErrTooMany},
		{names('A', 3, 1) + ",a,b", api.OK},
		{names('A', 3, 1) + ",a,b,one", api.ErrTooMany},
		{"a,a,a,a,a,a", api.OK},
		{"a,a,a,a,a,a,a", api.ErrTooMany},
		{"a,b,one,f(a,a),f(a,b)", api.OK},
		{"a,b,one,f(a,a),f(a,b),f(b,b)", api.ErrTooMany},
	} {
		for _, other := range []string{"Y,Z", "Y,Y", "Y,g(a)", names('V', 5, 6)} {
			for _, turned := range []bool{false, true} {
				e := equation(t, "plus("+c.side+") = plus("+other+")")
				if turned {
					e.L, e.R = e.R, e.L
				}
				x, no := abstract.Pure(example(), plus, e)
				if no != c.no {
					t.Errorf("Pure of %s = %s: %s, %d; want %d", written(e.L), written(e.R), toldSum(x), no, c.no)
				}
				want, no := becomes(example(), plus, e)
				wantPure(t, example(), plus, e, want, no)
			}
		}
	}
	// What is cancelled does not count.
	wantSides(t, plus, "plus("+names('A', 6, 1)+") = plus(F,Y,Z)", "1 A 1 B 1 C 1 D 1 E", "1 Y 1 Z")
	wantSides(t, plus, "plus(Y,Z,A) = plus("+names('A', 1, 7)+")", "1 Y 1 Z", "6 A")
	wantAct(t, plus, "plus("+names('A', 7, 1)+") = plus(G,Y,Z)", 0, api.ErrTooMany)
	wantAct(t, plus, "plus(Y,Z,A) = plus("+names('A', 1, 8)+")", 0, api.ErrTooMany)
	// Both sides are too great.
	wantAct(t, plus, "plus("+names('A', 6, 1)+") = plus("+names('P', 6, 1)+")", 0, api.ErrTooMany)
	wantAct(t, plus, "plus("+names('A', 6, 1)+") = plus("+names('P', 1, 7)+")", 0, api.ErrTooMany)
}

// TestPureFirstRow: where several rows are so the first one tells; what is too great is asked last.
func TestPureFirstRow(t *testing.T) {
	great := names('A', 1, 7) + "," + names('B', 5, 2)
	wantAct(t, plus, "plus("+great+") = plus("+great+")", api.Done, api.OK)
	for _, c := range []struct{ line, parts string }{
		{"Z = plus(" + names('A', 4, 7) + ")", "Z = plus(" + names('A', 4, 7) + ")"},
		{"plus(" + names('A', 4, 7) + ") = Z", "plus(" + names('A', 4, 7) + ") = Z"},
		{"X = Y", "X = Y"},
		{"Y = X", "Y = X"},
		{"plus(X,X,Z) = plus(Y,Z)", "plus(X,X) = Y"},
		{"plus(Y,Z) = plus(X,X,Z)", "Y = plus(X,X)"},
	} {
		wantParts(t, plus, c.line, c.parts)
	}
	wantAct(t, plus, "plus("+great+") = plus(A,B)", api.Fail, api.OK)
	wantAct(t, plus, "plus(A,B) = plus("+great+")", api.Fail, api.OK)
}

// noSums are places by example at which no AC or ACU symbol stands.
func noSums() []int { return []int{math.MinInt, -1, a, one, f, b, g, 7, 8, 9, 1 << 32, math.MaxInt} }

// TestPureSymbol: "if sym is not the place of an AC or ACU symbol of s"; whatever the equation is.
func TestPureSymbol(t *testing.T) {
	lines := []string{"X = X", "plus(X,Y) = plus(Z,W)", "f(X,a) = f(a,X)", "times(X,a) = X", "plus(" + names('A', 6, 1) + ") = plus(Y,Z)"}
	for _, sym := range noSums() {
		for _, line := range lines {
			wantAct(t, sym, line, 0, api.ErrAbstractSym)
		}
	}
	wantPure(t, nil, 0, equation(t, "X = X"), api.Sum{}, api.ErrAbstractSym)
	wantPure(t, sumFirst(), 4, equation(t, "X = X"), api.Sum{}, api.ErrAbstractSym)
	wantPure(t, sumFirst()[:3], 3, equation(t, "X = X"), api.Sum{}, api.ErrAbstractSym)
	for _, sym := range []int{0, 3} {
		wantPure(t, sumFirst(), sym, equation(t, "X = X"), api.Sum{Act: api.Done}, api.OK)
		wantPure(t, sumFirst(), sym, equation(t, "X = Y"), api.Sum{Act: api.Parts, L: []api.Equation{{L: v("X"), R: v("Y")}}}, api.OK)
	}
}

// TestPureOfAnACUSymbol: the table is the same; of the unit canon's Parts tells none.
func TestPureOfAnACUSymbol(t *testing.T) {
	wantSides(t, times, "times(X,X,a) = times(X,Y,b)", "1 X 1 a", "1 Y 1 b")
	wantAct(t, times, "times(X,a) = times(a,one,X)", api.Done, api.OK)
	wantAct(t, times, "one = one", api.Done, api.OK)
	wantAct(t, times, "times(X,Y) = one", api.Fail, api.OK)
	wantAct(t, times, "one = X", api.Fail, api.OK)
	wantAct(t, times, "times(X,a) = a", api.Fail, api.OK)
	wantParts(t, times, "times(X,Y) = times(X,a,b)", "Y = times(a,b)")
	wantParts(t, times, "times(X,X) = plus(X,X)", "times(X,X) = plus(X,X)")
	wantAct(t, times, "times("+names('A', 6, 1)+") = times(Y,Z)", 0, api.ErrTooMany)
	// By the plain signature the unit is a constant as any other.
	plain := sig.Plain(example())
	wantPure(t, plain, times, equation(t, "X = one"), api.Sum{Act: api.Parts, L: []api.Equation{{L: v("X"), R: sy(one)}}}, api.OK)
	wantPure(t, plain, times, equation(t, "one = one"), api.Sum{Act: api.Done}, api.OK)
	e := api.Equation{L: sy(times, v("X"), sy(a)), R: sy(times, v("Y"), sy(one), sy(one))}
	wantPure(t, plain, times, e, api.Sum{Act: api.Pure, Left: []api.Unknown{unknown(v("X"), 1), unknown(sy(a), 1)}, Right: []api.Unknown{unknown(v("Y"), 1), unknown(sy(one), 2)}}, api.OK)
}

// TestPureOfAllSmallEquations: every two sides of few terms, held against the table said again.
func TestPureOfAllSmallEquations(t *testing.T) {
	s := example()
	var l []api.Term
	for _, side := range sides(2, v("X"), v("Y"), sy(a), sy(f, v("X"), sy(a))) {
		if len(side) > 0 {
			x, _ := canon.Join(s, plus, repeated(side))
			l = append(l, x)
		}
	}
	for _, x := range l {
		for _, y := range l {
			e := api.Equation{L: x, R: y}
			want, no := becomes(s, plus, e)
			wantPure(t, s, plus, e, want, no)
		}
		if t.Failed() {
			return
		}
	}
}

func TestPureOfManyEquations(t *testing.T) {
	for i, s := range signatures() {
		m := newMaker(int64(130 + i))
		seen := map[api.Act]int{}
		for range 3000 {
			few := []api.Term{v("X"), v("Y"), v("Z"), m.right(s, 1), m.right(s, 4), m.right(s, 9), v("A"), v("B")}
			for sym := range s {
				if s[sym].Kind == api.Free {
					continue
				}
				n := 1 + m.Intn(len(few))
				e := api.Equation{L: m.sum(s, sym, few[:n]), R: m.sum(s, sym, few[m.Intn(n):])}
				switch m.Intn(8) {
				case 0:
					e.R = canon.Canon(s, few[m.Intn(len(few))])
				case 1:
					e.R = e.L
				}
				want, no := becomes(s, sym, e)
				wantPure(t, s, sym, e, want, no)
				seen[want.Act]++
			}
			if t.Failed() {
				return
			}
		}
		for _, act := range []api.Act{0, api.Done, api.Fail, api.Parts, api.Pure} {
			if seen[act] < 20 {
				t.Errorf("signature %d: only %d of %d", i, seen[act], act)
			}
		}
	}
}
