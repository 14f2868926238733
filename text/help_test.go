package text_test

import (
	"math/rand"
	"slices"
	"strconv"
	"strings"
	"testing"

	"amalgam/api"
	"amalgam/sig"
	"amalgam/terms"
	"amalgam/text"
	"amalgam/words"
)

func v(name string) api.Term { return api.Term{Var: name} }

func sy(sym int, args ...api.Term) api.Term { return api.Term{Sym: sym, Args: args} }

func bind(name string, t api.Term) api.Bind { return api.Bind{Var: name, T: t} }

// The symbols of exampleSignature.
const a, one, f, plus, times = 0, 1, 2, 3, 4

func exampleSignature() api.Signature {
	return api.Signature{
		{Name: "a", Kind: api.Free},
		{Name: "one", Kind: api.Free},
		{Name: "f", Kind: api.Free, Arity: 2},
		{Name: "plus", Kind: api.AC, Arity: 2},
		{Name: "times", Kind: api.ACU, Arity: 2, Unit: "one"},
	}
}

// The longest names that may be.
const longName, longVar, longNumber = "abcdefghij12", "ABcdefghij12", "_12345678901"

// wideSignature has names that begin one another, the longest one, and symbols with each number of arguments.
func wideSignature() api.Signature {
	return api.Signature{
		{Name: longName, Kind: api.Free, Arity: 1},
		{Name: "f", Kind: api.Free, Arity: 4},
		{Name: "f2", Kind: api.Free, Arity: 3},
		{Name: "f22", Kind: api.Free},
		{Name: "sum", Kind: api.ACU, Arity: 2, Unit: "f22"},
		{Name: "su", Kind: api.AC, Arity: 2},
	}
}

func signatures() []api.Signature {
	return []api.Signature{exampleSignature(), wideSignature(), {}}
}

func TestSignaturesAreRight(t *testing.T) {
	for i, s := range signatures() {
		if e, at := sig.Check(s); e != api.OK {
			t.Errorf("signature %d: %d at %d", i, e, at)
		}
	}
}

// written tells all of a term, so that two terms with one text are alike in every field.
func written(t api.Term) string {
	var b strings.Builder
	b.WriteString(t.Var + "'" + strconv.Itoa(t.Sym))
	if len(t.Args) > 0 {
		b.WriteString("(")
		for _, x := range t.Args {
			b.WriteString(written(x) + " ")
		}
		b.WriteString(")")
	}
	return b.String()
}

func writtenEquation(q api.Equation) string { return written(q.L) + " = " + written(q.R) }

func writtenBinds(l []api.Bind) string {
	var texts []string
	for _, b := range l {
		texts = append(texts, b.Var+" -> "+written(b.T))
	}
	return strings.Join(texts, "; ")
}

// A way of reading: which of the three calls.
const (
	asTerm = iota
	asEquation
	asBinds
	ways
)

// answer is what a reading tells: all of what was read, the error, its place.
type answer struct {
	read string
	e    api.Errno
	at   int
}

// reading is the answer of the call itself. With an error nothing may stand beside it and its place.
func reading(t *testing.T, way int, s api.Signature, in string) answer {
	t.Helper()
	var got answer
	zero := false
	switch way {
	case asTerm:
		x, e, at := text.Term(s, in)
		got, zero = answer{written(x), e, at}, x.Var == "" && x.Sym == 0 && len(x.Args) == 0
	case asEquation:
		q, e, at := text.Equation(s, in)
		got, zero = answer{writtenEquation(q), e, at}, writtenEquation(q) == writtenEquation(api.Equation{})
	case asBinds:
		l, e, at := text.Binds(s, in)
		got, zero = answer{writtenBinds(l), e, at}, len(l) == 0
	}
	if got.e != api.OK {
		if !zero {
			t.Errorf("way %d of %q: %d, and %s beside it", way, in, got.e, got.read)
		}
		got.read = ""
	}
	return got
}

// second reads again, by another way than by terms within terms: it keeps what is open on a list, and says of each word by its state what may follow.
type second struct {
	s     api.Signature
	way   int
	state int
	open  []api.Term // symbols whose brackets are open, with their arguments so far
	name  api.Term   // a symbol of which it is not known yet whether it has arguments
	vars  []string
	done  []api.Term
	over  bool
}

// The states: what is wanted.
const (
	aTerm = iota
	behindName
	behindTerm
	aVarOrNothing
	aVar
	anArrow
)

func secondReading(way int, s api.Signature, in string) answer {
	if len(in) > 800 {
		return answer{e: api.ErrTextLong}
	}
	r := second{s: s, way: way}
	if way == asBinds {
		r.state = aVarOrNothing
	}
	for at := 0; !r.over; {
		w, behind, e := words.Next(in, at)
		if e != api.OK {
			return answer{e: e, at: behind}
		}
		if e := r.step(w); e == api.ErrTextShort {
			return answer{e: e, at: len(in)}
		} else if e != api.OK {
			return answer{e: e, at: w.At}
		}
		at = behind
	}
	for _, x := range r.done {
		if e := terms.Check(s, x); e != api.OK {
			return answer{e: e}
		}
	}
	return answer{read: r.told()}
}

func (r *second) told() string {
	switch r.way {
	case asTerm:
		return written(r.done[0])
	case asEquation:
		return writtenEquation(api.Equation{L: r.done[0], R: r.done[1]})
	}
	var l []api.Bind
	for i, x := range r.done {
		l = append(l, bind(r.vars[i], x))
	}
	return writtenBinds(l)
}

// wrong is the error of a word that can't stand where something is wanted.
func wrong(w api.Word) api.Errno {
	if w.Kind == 0 {
		return api.ErrTextShort
	}
	return api.ErrTextWord
}

func (r *second) step(w api.Word) api.Errno {
	switch {
	case r.state == aTerm && w.Kind == api.WordVar:
		r.put(v(w.Text))
	case r.state == aTerm && w.Kind == api.WordName:
		at := slices.IndexFunc(r.s, func(x api.Symbol) bool { return x.Name == w.Text })
		if at < 0 {
			return api.ErrTextSymbol
		}
		r.name, r.state = sy(at), behindName
	case r.state == behindName && w.Kind == api.WordOpen:
		r.open, r.state = append(r.open, r.name), aTerm
	case r.state == behindName:
		r.put(r.name)
		return r.behind(w)
	case r.state == behindTerm:
		return r.behind(w)
	case r.state == aVarOrNothing && w.Kind == 0:
		r.over = true
	case (r.state == aVarOrNothing || r.state == aVar) && w.Kind == api.WordVar:
		r.vars, r.state = append(r.vars, w.Text), anArrow
	case r.state == anArrow && w.Kind == api.WordTo:
		r.state = aTerm
	default:
		return wrong(w)
	}
	return api.OK
}

// put lays a term that is whole where it belongs.
func (r *second) put(x api.Term) {
	r.state = behindTerm
	if n := len(r.open); n > 0 {
		r.open[n-1].Args = append(r.open[n-1].Args, x)
		return
	}
	r.done = append(r.done, x)
}

func (r *second) behind(w api.Word) api.Errno {
	n := len(r.open)
	switch {
	case n > 0 && w.Kind == api.WordComma:
		r.state = aTerm
	case n > 0 && w.Kind == api.WordClose:
		x := r.open[n-1]
		r.open = r.open[:n-1]
		r.put(x)
	case n > 0:
		return wrong(w)
	case r.way == asEquation && len(r.done) == 1 && w.Kind == api.WordEqual:
		r.state = aTerm
	case r.way == asEquation && len(r.done) == 1:
		return wrong(w)
	case r.way == asBinds && w.Kind == api.WordComma:
		r.state = aVar
	case w.Kind == 0:
		r.over = true
	default:
		return api.ErrTextRest
	}
	return api.OK
}

// maker makes terms and texts by a rule that is the same at each run.
type maker struct{ *rand.Rand }

func newMaker(seed int64) maker { return maker{rand.New(rand.NewSource(seed))} }

func (m maker) variable() string {
	return []string{"X", "Y", "Xy2", "_1", "_10", "Z9", longVar, longNumber}[m.Intn(8)]
}

// right makes a right term of at most n nodes.
func (m maker) right(s api.Signature, n int) api.Term {
	if len(s) == 0 || n < 3 || m.Intn(6) == 0 {
		return m.leaf(s)
	}
	sym := m.Intn(len(s))
	count := s[sym].Arity
	if s[sym].Kind != api.Free {
		count = 2 + m.Intn(min(6, n-2))
	}
	if count > n-1 {
		return m.leaf(s)
	}
	var args []api.Term
	left := n - 1
	for i := range count {
		x := m.right(s, left-(count-1-i))
		left -= terms.Size(x)
		args = append(args, x)
	}
	return sy(sym, args...)
}

func (m maker) leaf(s api.Signature) api.Term {
	if len(s) > 0 {
		if sym := m.Intn(len(s)); s[sym].Kind == api.Free && s[sym].Arity == 0 {
			return sy(sym)
		}
	}
	return v(m.variable())
}

func (m maker) equation(s api.Signature, n int) api.Equation {
	return api.Equation{L: m.right(s, n), R: m.right(s, n)}
}

func (m maker) binds(s api.Signature, n int) []api.Bind {
	var l []api.Bind
	for range m.Intn(5) {
		l = append(l, bind(m.variable(), m.right(s, n)))
	}
	return l
}

// shown is a term's text, said again.
func shown(s api.Signature, t api.Term) string {
	if t.Var != "" {
		return t.Var
	}
	if len(t.Args) == 0 {
		return s[t.Sym].Name
	}
	var l []string
	for _, x := range t.Args {
		l = append(l, shown(s, x))
	}
	return s[t.Sym].Name + "(" + strings.Join(l, ",") + ")"
}

func shownEquation(s api.Signature, q api.Equation) string {
	return shown(s, q.L) + " = " + shown(s, q.R)
}

func shownBinds(s api.Signature, l []api.Bind) string {
	var texts []string
	for _, b := range l {
		texts = append(texts, b.Var+" -> "+shown(s, b.T))
	}
	return strings.Join(texts, ", ")
}

// row makes the words of a text that may be read: of a right term, an equation, or binds.
func (m maker) row(way int, s api.Signature, n int) []string {
	var in string
	switch way {
	case asTerm:
		in = shown(s, m.right(s, n))
	case asEquation:
		in = shownEquation(s, m.equation(s, n))
	case asBinds:
		in = shownBinds(s, m.binds(s, n))
	}
	return wordsOf(in)
}

func wordsOf(in string) []string {
	var l []string
	for w := range words.All(in) {
		l = append(l, w.Text)
	}
	return l
}

// pool are words of all kinds, a name that no signature has, and bytes that begin no word.
func pool() []string {
	return []string{"X", "a", "f", "b", "(", ")", ",", "=", "->", "["}
}

// spoilt is a row with some words left out, put in, changed or doubled.
func (m maker) spoilt(row []string) []string {
	row = slices.Clone(row)
	for range 1 + m.Intn(2) {
		at := m.Intn(len(row) + 1)
		other := slices.Concat(pool(), []string{longName, longName + "z", "_0", "_", "\t", "-", ">"})
		x := other[m.Intn(len(other))]
		switch {
		case at == len(row) || m.Intn(3) == 0:
			row = slices.Insert(row, at, x)
		case m.Intn(2) == 0:
			row[at] = x
		case m.Intn(2) == 0:
			row = slices.Delete(row, at, at+1)
		default:
			row = row[:at]
		}
	}
	return row
}

// spaced is a row as a text: blanks stand where two words would be read as one, and elsewhere by chance; told are the places of the words, too.
func (m maker) spaced(row []string) (string, []int) {
	in := strings.Repeat(" ", m.Intn(3))
	var places []int
	for i, x := range row {
		if i > 0 && bare(row[i-1]) && bare(x) {
			in += " "
		}
		places = append(places, len(in))
		in += x + strings.Repeat(" ", []int{0, 0, 0, 1, 2, 9}[m.Intn(6)])
	}
	return in, places
}

// bare: could this text grow together with one beside it?
func bare(x string) bool {
	return strings.Trim(x, "(),=[\t") != ""
}
