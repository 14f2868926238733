package units_test

import (
	"iter"
	"math/big"
	"math/rand"
	"slices"
	"strconv"
	"strings"
	"testing"

	"amalgam/api"
	"amalgam/sig"
)

func v(name string) api.Term { return api.Term{Var: name} }

func sy(sym int, args ...api.Term) api.Term { return api.Term{Sym: sym, Args: args} }

// under is a variable that has a symbol's place and arguments, though none may.
func under(name string, sym int, args ...api.Term) api.Term {
	return api.Term{Var: name, Sym: sym, Args: args}
}

func to(name string, sym int) api.Bind { return api.Bind{Var: name, T: sy(sym)} }

// The symbols of example.
const a, one, f, plus, times = 0, 1, 2, 3, 4

func example() api.Signature {
	return api.Signature{
		{Name: "a", Kind: api.Free},
		{Name: "one", Kind: api.Free},
		{Name: "f", Kind: api.Free, Arity: 2},
		{Name: "plus", Kind: api.AC, Arity: 2},
		{Name: "times", Kind: api.ACU, Arity: 2, Unit: "one"},
	}
}

// The symbols of wide.
const zero, no, or, and, sum, both, g = 0, 1, 2, 3, 4, 5, 6

// wide has two symbols of one unit, and a symbol of each unit that stands ahead of one of another unit and behind one.
func wide() api.Signature {
	return api.Signature{
		{Name: "zero", Kind: api.Free},
		{Name: "no", Kind: api.Free},
		{Name: "or", Kind: api.AC, Arity: 2},
		{Name: "and", Kind: api.ACU, Arity: 2, Unit: "no"},
		{Name: "sum", Kind: api.ACU, Arity: 2, Unit: "zero"},
		{Name: "both", Kind: api.ACU, Arity: 2, Unit: "no"},
		{Name: "g", Kind: api.Free, Arity: 1},
	}
}

func TestSignaturesAreRight(t *testing.T) {
	for _, s := range []api.Signature{example(), wide()} {
		if e, at := sig.Check(s); e != api.OK {
			t.Errorf("%v: %v at %d", s, e, at)
		}
	}
}

// chain is a term beneath so many symbols.
func chain(sym, often int, t api.Term) api.Term {
	for range often {
		t = sy(sym, t)
	}
	return t
}

// written tells all of some binds, so that lists with one text are alike in every field.
func written(l []api.Bind) string {
	var b strings.Builder
	for _, x := range l {
		b.WriteString(strconv.Quote(x.Var) + ">" + strconv.Quote(x.T.Var) + strconv.Itoa(x.T.Sym) + "." + strconv.Itoa(len(x.T.Args)) + ";")
	}
	return b.String()
}

func wantBinds(t *testing.T, got, want []api.Bind, of ...any) {
	t.Helper()
	if written(got) != written(want) {
		t.Errorf("%v: %s; want %s", of, written(got), written(want))
	}
}

func wantWays(t *testing.T, got, want [][]api.Bind, of ...any) {
	t.Helper()
	if len(got) != len(want) {
		t.Fatalf("%v: %d ways; want %d", of, len(got), len(want))
	}
	for k := range want {
		if written(got[k]) != written(want[k]) {
			t.Fatalf("%v, way %d: %s; want %s", of, k, written(got[k]), written(want[k]))
		}
	}
}

// told are the ways that a walk tells, at most so many; then it is left.
func told(walk iter.Seq[[]api.Bind], most int) [][]api.Bind {
	var l [][]api.Bind
	for binds := range walk {
		l = append(l, binds)
		if len(l) == most {
			break
		}
	}
	return l
}

// rows are all rows of so many digits below base, in the order of the numbers that they write.
func rows(digits, base int) [][]int {
	l := [][]int{nil}
	for range digits {
		var longer [][]int
		for _, row := range l {
			for d := range base {
				longer = append(longer, append(slices.Clone(row), d))
			}
		}
		l = longer
	}
	return l
}

// byDigits are the binds of a row of digits, as the chapter says them.
func byDigits(units []int, vars []string, row []int) []api.Bind {
	var l []api.Bind
	for i, d := range row {
		if d != 0 {
			l = append(l, to(vars[i], units[d-1]))
		}
	}
	return l
}

// allWays are all ways' binds, said a second time: rows of digits instead of numbers.
func allWays(units []int, vars []string) [][]api.Bind {
	var l [][]api.Bind
	for _, row := range rows(len(vars), len(units)+1) {
		l = append(l, byDigits(units, vars, row))
	}
	return l
}

// power is how many ways there are, however many.
func power(units, vars int) *big.Int {
	return new(big.Int).Exp(big.NewInt(int64(units)+1), big.NewInt(int64(vars)), nil)
}

// bigDigits is a number written with so many digits to a base, found from the first one on; the number must be below base to the digits.
func bigDigits(k, digits, base int) []int {
	row, rest := make([]int, digits), big.NewInt(int64(k))
	for i := range row {
		weight := power(base-1, digits-1-i)
		d, left := new(big.Int).QuoRem(rest, weight, new(big.Int))
		row[i], rest = int(d.Int64()), left
	}
	return row
}

// someUnits are so many unlike places, which do not rise.
func someUnits(n int) []int {
	l := make([]int, n)
	for i := range l {
		l[i] = 7 * (n - i)
	}
	return l
}

// someVars are so many names that rise.
func someVars(n int) []string {
	l := make([]string, n)
	for i := range l {
		l[i] = "X" + strconv.Itoa(1000000+i)
	}
	return l
}

// maker makes signatures and terms, the same ones at each run.
type maker struct{ *rand.Rand }

func newMaker(seed int64) maker { return maker{rand.New(rand.NewSource(seed))} }

// signature makes one of few names, so that names stand twice, units are found and are not, and of all kinds and some that are none.
func (m maker) signature(n int) api.Signature {
	names := []string{"", "b", "c", "d", "e", "h"}
	s := make(api.Signature, n)
	for i := range s {
		s[i] = api.Symbol{
			Name:  names[m.Intn(len(names))],
			Kind:  []api.Kind{api.ACU, api.ACU, api.ACU, api.AC, api.Free, 0, 4, -1}[m.Intn(8)],
			Arity: m.Intn(4) - 1,
			Unit:  names[m.Intn(len(names))],
		}
	}
	return s
}

// term makes one of symbols and of places that are none, and of variables, some of which have places and arguments.
func (m maker) term(symbols, nodes int) api.Term {
	t := api.Term{Sym: m.Intn(symbols+4) - 2}
	if m.Intn(3) == 0 {
		t.Var = []string{"X", "Y", "x", "_1"}[m.Intn(4)]
	}
	for nodes--; nodes > 0 && m.Intn(4) > 0; {
		part := 1 + m.Intn(nodes)
		t.Args = append(t.Args, m.term(symbols, part))
		nodes -= part
	}
	return t
}
