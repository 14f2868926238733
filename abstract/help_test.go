package abstract_test

import (
	"math/rand"
	"slices"
	"strconv"
	"strings"
	"testing"

	"amalgam/api"
	"amalgam/canon"
	"amalgam/sig"
	"amalgam/terms"
	"amalgam/text"
)

func v(name string) api.Term { return api.Term{Var: name} }

func sy(sym int, args ...api.Term) api.Term { return api.Term{Sym: sym, Args: args} }

// The symbols of example; the first five are the document's.
const a, one, f, plus, times, b, g = 0, 1, 2, 3, 4, 5, 6

func example() api.Signature {
	return api.Signature{
		{Name: "a", Kind: api.Free},
		{Name: "one", Kind: api.Free},
		{Name: "f", Kind: api.Free, Arity: 2},
		{Name: "plus", Kind: api.AC, Arity: 2},
		{Name: "times", Kind: api.ACU, Arity: 2, Unit: "one"},
		{Name: "b", Kind: api.Free},
		{Name: "g", Kind: api.Free, Arity: 1},
	}
}

// sumFirst has an AC symbol at the place 0, which is each variable's Sym, too, and an ACU symbol at the last place.
func sumFirst() api.Signature {
	return api.Signature{
		{Name: "or", Kind: api.AC, Arity: 2},
		{Name: "no", Kind: api.Free},
		{Name: "h", Kind: api.Free, Arity: 3},
		{Name: "and", Kind: api.ACU, Arity: 2, Unit: "no"},
	}
}

func signatures() []api.Signature {
	return []api.Signature{example(), sumFirst(), sig.Plain(example())}
}

func TestSignaturesAreRight(t *testing.T) {
	for i, s := range signatures() {
		if e, at := sig.Check(s); e != api.OK {
			t.Errorf("signature %d: %d at %d", i, e, at)
		}
	}
}

// term reads a term by example, and makes it canonical.
func term(t *testing.T, line string) api.Term {
	t.Helper()
	x, e, at := text.Term(example(), line)
	if e != api.OK {
		t.Fatalf("%s: %d at %d", line, e, at)
	}
	return canon.Canon(example(), x)
}

// equation reads two canonical terms by example.
func equation(t *testing.T, line string) api.Equation {
	t.Helper()
	l, r, ok := strings.Cut(line, " = ")
	if !ok {
		t.Fatal(line)
	}
	return api.Equation{L: term(t, l), R: term(t, r)}
}

// written tells all of a term, so that two terms with one text are alike in every field.
func written(t api.Term) string {
	var b strings.Builder
	b.WriteString(t.Var + "'" + strconv.Itoa(t.Sym))
	if len(t.Args) > 0 {
		b.WriteString("(")
		for _, x := range t.Args {
			b.WriteString(written(x) + " ")
		}
		b.WriteString(")")
	}
	return b.String()
}

// told tells all of a list of unknowns.
func told(l []api.Unknown) string {
	var b strings.Builder
	for _, x := range l {
		b.WriteString(strconv.Itoa(x.N) + " " + written(x.T))
		if x.Alien {
			b.WriteString(" alien")
		}
		b.WriteString("; ")
	}
	return b.String()
}

// toldSum tells all of a sum, its fields apart.
func toldSum(x api.Sum) string {
	var b strings.Builder
	b.WriteString(strconv.Itoa(int(x.Act)) + ": ")
	for _, e := range x.L {
		b.WriteString(written(e.L) + " = " + written(e.R) + ", ")
	}
	return b.String() + "| " + told(x.Left) + "| " + told(x.Right)
}

// unknown is a term that stands so often.
func unknown(x api.Term, n int) api.Unknown { return api.Unknown{T: x, N: n, Alien: len(x.Var) == 0} }

// unknowns reads a side by example: numbers and terms by turns.
func unknowns(t *testing.T, line string) []api.Unknown {
	t.Helper()
	var l []api.Unknown
	words := strings.Fields(line)
	for i := 0; i+1 < len(words); i += 2 {
		n, err := strconv.Atoi(words[i])
		if err != nil {
			t.Fatal(line)
		}
		l = append(l, unknown(term(t, words[i+1]), n))
	}
	wantSide(t, line, l)
	return l
}

// wantSide: is this a side, as the chapter says it?
func wantSide(t *testing.T, what string, l []api.Unknown) {
	t.Helper()
	for i, x := range l {
		if x.N < 1 || x.Alien != (x.T.Var == "") || i > 0 && terms.Compare(l[i-1].T, x.T) != -1 {
			t.Errorf("%s is no side: %s", what, told(l))
		}
	}
}

// pairs is the chapter's Cancel said again, each unknown held against each.
func pairs(l, r []api.Unknown) ([]api.Unknown, []api.Unknown) {
	less := func(l, r []api.Unknown) []api.Unknown {
		var left []api.Unknown
		for _, x := range l {
			for _, y := range r {
				if written(x.T) == written(y.T) {
					x.N -= min(x.N, y.N)
					break
				}
			}
			if x.N > 0 {
				left = append(left, x)
			}
		}
		return left
	}
	return less(l, r), less(r, l)
}

// arguments is the chapter's Unknowns said again: the arguments that a canonical term gives to an AC or ACU symbol, counted by their texts.
func arguments(s api.Signature, sym int, t api.Term) []api.Unknown {
	l := []api.Term{t}
	if t.Var == "" && t.Sym == sym {
		l = t.Args
	}
	if unit, ok := sig.Unit(s, sym); ok && t.Var == "" && t.Sym == unit {
		l = nil
	}
	often := map[string]int{}
	for _, x := range l {
		often[written(x)]++
	}
	var side []api.Unknown
	for _, x := range l {
		if n := often[written(x)]; n > 0 {
			side = append(side, unknown(x, n))
			often[written(x)] = 0
		}
	}
	slices.SortFunc(side, func(x, y api.Unknown) int { return terms.Compare(x.T, y.T) })
	return side
}

// repeated is a list of terms, each as often as a side has it.
func repeated(l []api.Unknown) []api.Term {
	var all []api.Term
	for _, x := range l {
		all = append(all, slices.Repeat([]api.Term{x.T}, x.N)...)
	}
	return all
}

// becomes is the chapter's table said again, row by row.
func becomes(s api.Signature, sym int, e api.Equation) (api.Sum, api.Errno) {
	l, r := pairs(arguments(s, sym, e.L), arguments(s, sym, e.R))
	left, right := repeated(l), repeated(r)
	sum := func(all []api.Term) api.Term {
		if len(all) == 1 {
			return all[0]
		}
		return canon.Canon(s, sy(sym, all...))
	}
	if len(left)+len(right) == 0 {
		return api.Sum{Act: api.Done}, api.OK
	}
	if len(left) == 0 || len(right) == 0 {
		return api.Sum{Act: api.Fail}, api.OK
	}
	if len(left) == 1 || len(right) == 1 {
		return api.Sum{Act: api.Parts, L: []api.Equation{{L: sum(left), R: sum(right)}}}, api.OK
	}
	for _, x := range slices.Concat(l, r) {
		if x.N > 6 {
			return api.Sum{}, api.ErrTooMany
		}
	}
	if len(l) > 5 || len(r) > 5 {
		return api.Sum{}, api.ErrTooMany
	}
	return api.Sum{Act: api.Pure, Left: l, Right: r}, api.OK
}

// maker makes terms.
type maker struct{ *rand.Rand }

func newMaker(seed int64) maker { return maker{rand.New(rand.NewSource(seed))} }

// right makes a right term of about so many nodes.
func (m maker) right(s api.Signature, n int) api.Term {
	var fitting []int
	for sym, x := range s {
		if (x.Kind == api.Free && x.Arity == 0) == (n < 3) {
			fitting = append(fitting, sym)
		}
	}
	if n < 3 && m.Intn(2) == 0 || len(fitting) == 0 {
		return v([]string{"X", "Y", "Z", "_1"}[m.Intn(4)])
	}
	sym := fitting[m.Intn(len(fitting))]
	many := s[sym].Arity
	if s[sym].Kind != api.Free {
		many += m.Intn(4)
	}
	var args []api.Term
	for range many {
		args = append(args, m.right(s, (n-1)/many))
	}
	return sy(sym, args...)
}

// sum makes a canonical term of a symbol, out of few arguments, of which many are the same.
func (m maker) sum(s api.Signature, sym int, few []api.Term) api.Term {
	var args []api.Term
	for range 2 + m.Intn(9) {
		args = append(args, few[m.Intn(len(few))])
	}
	return canon.Canon(s, sy(sym, args...))
}

// sides are all sides of some rising terms, each 0 to so often.
func sides(most int, of ...api.Term) [][]api.Unknown {
	l := [][]api.Unknown{nil}
	for _, x := range of {
		var longer [][]api.Unknown
		for _, y := range l {
			longer = append(longer, y)
			for n := 1; n <= most; n++ {
				longer = append(longer, append(slices.Clone(y), unknown(x, n)))
			}
		}
		l = longer
	}
	return l
}
