package rejoin_test

import (
	"math/rand"
	"slices"
	"strconv"
	"strings"
	"testing"

	"amalgam/api"
	"amalgam/rejoin"
	"amalgam/sig"
	"amalgam/text"
)

func v(name string) api.Term { return api.Term{Var: name} }

func sy(sym int, args ...api.Term) api.Term { return api.Term{Sym: sym, Args: args} }

// The symbols of example; the first five are the document's.
const a, one, f, plus, times, b = 0, 1, 2, 3, 4, 5

func example() api.Signature {
	return api.Signature{
		{Name: "a", Kind: api.Free},
		{Name: "one", Kind: api.Free},
		{Name: "f", Kind: api.Free, Arity: 2},
		{Name: "plus", Kind: api.AC, Arity: 2},
		{Name: "times", Kind: api.ACU, Arity: 2, Unit: "one"},
		{Name: "b", Kind: api.Free},
	}
}

// sumFirst has an AC symbol at the place 0, which is each variable's Sym, too, and an ACU symbol at the last place.
func sumFirst() api.Signature {
	return api.Signature{
		{Name: "or", Kind: api.AC, Arity: 2},
		{Name: "no", Kind: api.Free},
		{Name: "h", Kind: api.Free, Arity: 3},
		{Name: "and", Kind: api.ACU, Arity: 2, Unit: "no"},
	}
}

// sum is a symbol whose terms are sums, with its signature.
type sum struct {
	s   api.Signature
	sym int
}

func sums() []sum {
	return []sum{{example(), plus}, {example(), times}, {sumFirst(), 0}, {sumFirst(), 3}, {sig.Plain(example()), times}}
}

func TestSignaturesAreRight(t *testing.T) {
	for i, x := range sums() {
		if e, at := sig.Check(x.s); e != api.OK || x.s[x.sym].Kind == api.Free {
			t.Errorf("sum %d: %d at %d", i, e, at)
		}
	}
}

// term reads a term by example, as it is written.
func term(t *testing.T, line string) api.Term {
	t.Helper()
	x, e, at := text.Term(example(), line)
	if e != api.OK {
		t.Fatalf("%s: %d at %d", line, e, at)
	}
	return x
}

// unknowns reads terms by example, with blanks between them.
func unknowns(t *testing.T, line string) []api.Unknown {
	t.Helper()
	var l []api.Unknown
	for _, w := range strings.Fields(line) {
		x := term(t, w)
		l = append(l, api.Unknown{T: x, N: 1, Alien: x.Var == ""})
	}
	return l
}

// named are so many unknowns, variables all of them.
func named(many int) []api.Unknown {
	l := make([]api.Unknown, many)
	for i := range l {
		l[i] = api.Unknown{T: v("X" + strconv.Itoa(i)), N: 1}
	}
	return l
}

// rows reads vectors, a semicolon between two; of an empty line none.
func rows(t *testing.T, line string) [][]int {
	t.Helper()
	if line == "" {
		return nil
	}
	var l [][]int
	for _, x := range strings.Split(line, ";") {
		row := []int{}
		for _, w := range strings.Fields(x) {
			n, err := strconv.Atoi(w)
			if err != nil {
				t.Fatal(line)
			}
			row = append(row, n)
		}
		l = append(l, row)
	}
	return l
}

// all is a list of one number, so often.
func all(n, often int) []int { return slices.Repeat([]int{n}, often) }

// same are so many rows of one number, so often each.
func same(many, n, often int) [][]int {
	l := make([][]int, many)
	for i := range l {
		l[i] = all(n, often)
	}
	return l
}

// written tells all of a term, so that two terms with one text are alike in every field.
func written(t api.Term) string {
	var b strings.Builder
	write(&b, t)
	return b.String()
}

func write(b *strings.Builder, t api.Term) {
	b.WriteString(t.Var + "'" + strconv.Itoa(t.Sym))
	if len(t.Args) == 0 {
		return
	}
	b.WriteString("(")
	for _, x := range t.Args {
		write(b, x)
		b.WriteString(" ")
	}
	b.WriteString(")")
}

// answer is what Equations answers.
type answer struct {
	l     []api.Equation
	fresh int
	e     api.Errno
}

func ask(s api.Signature, sym int, l []api.Unknown, rows [][]int, fresh int) answer {
	var x answer
	x.l, x.fresh, x.e = rejoin.Equations(s, sym, l, rows, fresh)
	return x
}

func (x answer) told() string {
	var b strings.Builder
	for _, q := range x.l {
		write(&b, q.L)
		b.WriteString(" = ")
		write(&b, q.R)
		b.WriteString("; ")
	}
	return b.String() + strconv.Itoa(x.fresh) + "; " + strconv.Itoa(int(x.e))
}

// saidAgain is the chapter's Equations said again, word by word.
func saidAgain(s api.Signature, sym int, l []api.Unknown, rows [][]int, fresh int) answer {
	sums := map[int]bool{}
	for i, x := range s {
		sums[i] = x.Kind == 2 || x.Kind == 3
	}
	if !sums[sym] {
		return answer{e: 121}
	}
	if fresh < 0 || fresh > 1048576 {
		return answer{e: 1}
	}
	if len(rows) > 16 {
		return answer{e: 141}
	}
	for _, row := range rows {
		if len(row) != len(l) || len(row) > 0 && (slices.Min(row) < 0 || slices.Max(row) > 1048576) {
			return answer{e: 141}
		}
	}
	var x answer
	for i, u := range l {
		n := 0
		for _, row := range rows {
			n += row[i]
		}
		if n == 0 {
			return answer{e: 142}
		}
		if n > 399 {
			return answer{e: 2}
		}
		var names []string
		for j, row := range rows {
			names = append(names, slices.Repeat([]string{"_" + strconv.Itoa(fresh+1+j)}, row[i])...)
		}
		slices.Sort(names)
		r := sy(sym)
		for _, name := range names {
			r.Args = append(r.Args, v(name))
		}
		if len(names) == 1 {
			r = r.Args[0]
		}
		x.l = append(x.l, api.Equation{L: u.T, R: r})
	}
	x.fresh = fresh + len(rows)
	return x
}

// wantSaidAgain tells which error it was.
func wantSaidAgain(t *testing.T, s api.Signature, sym int, l []api.Unknown, rows [][]int, fresh int) api.Errno {
	t.Helper()
	got, want := ask(s, sym, l, rows, fresh), saidAgain(s, sym, l, rows, fresh)
	if got.told() != want.told() {
		t.Fatalf("by %d, of %d unknowns, rows %v, fresh %d: %s; want %s", sym, len(l), rows, fresh, got.told(), want.told())
	}
	return got.e
}

func wantError(t *testing.T, what string, got answer, want api.Errno) {
	t.Helper()
	if got.told() != (answer{e: want}).told() {
		t.Errorf("%s: %s; want %d and nothing else", what, got.told(), want)
	}
}

// maker makes terms and rows by a rule that is the same at each run.
type maker struct{ *rand.Rand }

func newMaker(seed int64) maker { return maker{rand.New(rand.NewSource(seed))} }

// right makes a right term of about so many nodes, canonical or not.
func (m maker) right(s api.Signature, n int) api.Term {
	var fitting []int
	for sym, x := range s {
		if (x.Kind == api.Free && x.Arity == 0) == (n < 3) {
			fitting = append(fitting, sym)
		}
	}
	if n < 3 && m.Intn(2) == 0 || len(fitting) == 0 {
		return v([]string{"X", "Y", "Z", "_1", "_12"}[m.Intn(5)])
	}
	sym := fitting[m.Intn(len(fitting))]
	many := s[sym].Arity
	if s[sym].Kind != api.Free {
		many += m.Intn(3)
	}
	var args []api.Term
	for range many {
		args = append(args, m.right(s, (n-1)/many))
	}
	return sy(sym, args...)
}

// unknowns makes unknowns of right terms, of which N and Alien say anything.
func (m maker) unknowns(s api.Signature, many int) []api.Unknown {
	l := make([]api.Unknown, many)
	for i := range l {
		l[i] = api.Unknown{T: m.right(s, 1+m.Intn(8)), N: []int{-1 << 63, -1, 0, 1, 2, 6, 7, 1<<63 - 1}[m.Intn(8)], Alien: m.Intn(2) == 0}
	}
	return l
}

// rows makes so many rows of some small numbers, rarely of great ones.
func (m maker) rows(many, unknowns int) [][]int {
	l := make([][]int, many)
	for i := range l {
		l[i] = make([]int, unknowns)
		for j := range l[i] {
			l[i][j] = []int{0, 0, 0, 1, 1, 1, 2, 3}[m.Intn(8)]
			if m.Intn(60) == 0 {
				l[i][j] = []int{-1, 10, 100, 300, 399, 400, 1 << 20, 1<<20 + 1}[m.Intn(8)]
			}
		}
	}
	return l
}
