package match_test

import (
	"math/rand"
	"slices"
	"strconv"
	"strings"
	"testing"

	"amalgam/api"
	"amalgam/bag"
	"amalgam/canon"
	"amalgam/match"
	"amalgam/sig"
	"amalgam/split"
	"amalgam/terms"
	"amalgam/text"
)

func v(name string) api.Term { return api.Term{Var: name} }

func sy(sym int, args ...api.Term) api.Term { return api.Term{Sym: sym, Args: args} }

func bind(name string, t api.Term) api.Bind { return api.Bind{Var: name, T: t} }

// The symbols of example; the first five are the document's.
const a, one, f, plus, times, b, g, zero, sum, both = 0, 1, 2, 3, 4, 5, 6, 7, 8, 9

// example has two units, of which the one is that of two symbols.
func example() api.Signature {
	return api.Signature{
		{Name: "a", Kind: api.Free},
		{Name: "one", Kind: api.Free},
		{Name: "f", Kind: api.Free, Arity: 2},
		{Name: "plus", Kind: api.AC, Arity: 2},
		{Name: "times", Kind: api.ACU, Arity: 2, Unit: "one"},
		{Name: "b", Kind: api.Free},
		{Name: "g", Kind: api.Free, Arity: 1},
		{Name: "zero", Kind: api.Free},
		{Name: "sum", Kind: api.ACU, Arity: 2, Unit: "zero"},
		{Name: "both", Kind: api.ACU, Arity: 2, Unit: "one"},
	}
}

// document is the signature of the document's examples.
func document() api.Signature { return example()[:5] }

// unitFirst has a unit at the place 0, which is each variable's Sym, too, and an ACU symbol at the last place.
func unitFirst() api.Signature {
	return api.Signature{
		{Name: "no", Kind: api.Free},
		{Name: "or", Kind: api.AC, Arity: 2},
		{Name: "h", Kind: api.Free, Arity: 3},
		{Name: "and", Kind: api.ACU, Arity: 2, Unit: "no"},
	}
}

// sumFirst has an AC symbol at the place 0, and no unit.
func sumFirst() api.Signature {
	return api.Signature{
		{Name: "or", Kind: api.AC, Arity: 2},
		{Name: "no", Kind: api.Free},
		{Name: "h", Kind: api.Free, Arity: 3},
		{Name: "xor", Kind: api.AC, Arity: 2},
	}
}

func signatures() []api.Signature {
	return []api.Signature{document(), example(), unitFirst(), sumFirst()}
}

func TestSignaturesAreRight(t *testing.T) {
	for i, s := range signatures() {
		if e, at := sig.Check(s); e != api.OK {
			t.Errorf("signature %d: %d at %d", i, e, at)
		}
	}
}

func term(t *testing.T, line string) api.Term {
	t.Helper()
	x, e, at := text.Term(example(), line)
	if e != api.OK {
		t.Fatalf("%s: %d at %d", line, e, at)
	}
	return x
}

func binds(t *testing.T, line string) []api.Bind {
	t.Helper()
	l, e, at := text.Binds(example(), line)
	if e != api.OK {
		t.Fatalf("%s: %d at %d", line, e, at)
	}
	return l
}

// lists reads lists of binds; an empty line is a list of none.
func lists(t *testing.T, lines ...string) [][]api.Bind {
	t.Helper()
	var l [][]api.Bind
	for _, line := range lines {
		l = append(l, binds(t, line))
	}
	return l
}

// problem is patterns and their subjects.
type problem struct{ p, t []api.Term }

// of is a problem of patterns and subjects by turns.
func of(l ...api.Term) problem {
	var x problem
	for i := 0; i < len(l); i += 2 {
		x.p, x.t = append(x.p, l[i]), append(x.t, l[i+1])
	}
	return x
}

// read reads pairs, each written as an equation of a pattern and its subject, with `;` between them.
func read(t *testing.T, line string) problem {
	t.Helper()
	var x problem
	for pair := range strings.SplitSeq(line, ";") {
		q, e, at := text.Equation(example(), pair)
		if e != api.OK {
			t.Fatalf("%s: %d at %d", pair, e, at)
		}
		x.p, x.t = append(x.p, q.L), append(x.t, q.R)
	}
	return x
}

// and is both problems' pairs, one behind the other.
func (x problem) and(y problem) problem {
	return problem{slices.Concat(x.p, y.p), slices.Concat(x.t, y.t)}
}

// written tells all of a term, so that two terms with one text are alike in every field.
func written(t api.Term) string {
	var b strings.Builder
	write(&b, t)
	return b.String()
}

func write(b *strings.Builder, t api.Term) {
	b.WriteString(t.Var + "'" + strconv.Itoa(t.Sym))
	if len(t.Args) == 0 {
		return
	}
	b.WriteString("(")
	for _, x := range t.Args {
		write(b, x)
		b.WriteString(" ")
	}
	b.WriteString(")")
}

func (x problem) String() string {
	var b strings.Builder
	for i := range max(len(x.p), len(x.t)) {
		if i < len(x.p) {
			write(&b, x.p[i])
		}
		b.WriteString(" to ")
		if i < len(x.t) {
			write(&b, x.t[i])
		}
		b.WriteString("; ")
	}
	if b.Len() > 2000 {
		return b.String()[:2000] + " .."
	}
	return b.String()
}

func toldBinds(l []api.Bind) string {
	var b strings.Builder
	for _, x := range l {
		b.WriteString(x.Var + " -> ")
		write(&b, x.T)
		b.WriteString("; ")
	}
	return b.String()
}

func toldLists(l [][]api.Bind) string {
	text := strconv.Itoa(len(l))
	for _, x := range l {
		text += " / " + toldBinds(x)
	}
	return text
}

func wantMany(t *testing.T, s api.Signature, x problem, want [][]api.Bind, wantE api.Errno) {
	t.Helper()
	if l, e := match.Many(s, x.p, x.t); e != wantE || toldLists(l) != toldLists(want) {
		t.Errorf("Many of %v: %s, %d; want %s, %d", x, toldLists(l), e, toldLists(want), wantE)
	}
	if len(x.p) != 1 || len(x.t) != 1 {
		return
	}
	if l, e := match.All(s, x.p[0], x.t[0]); e != wantE || toldLists(l) != toldLists(want) {
		t.Errorf("All of %v: %s, %d; want %s, %d", x, toldLists(l), e, toldLists(want), wantE)
	}
}

func wantFirst(t *testing.T, s api.Signature, x problem, want []api.Bind, wantIs bool, wantE api.Errno) {
	t.Helper()
	if b, is, e := match.First(s, x.p, x.t); toldBinds(b) != toldBinds(want) || is != wantIs || e != wantE {
		t.Errorf("First of %v: %s, %v, %d; want %s, %v, %d", x, toldBinds(b), is, e, toldBinds(want), wantIs, wantE)
	}
}

// wantLines holds Many of the example's pairs against lines of binds.
func wantLines(t *testing.T, line string, want ...string) {
	t.Helper()
	wantMany(t, example(), read(t, line), lists(t, want...), api.OK)
}

// wantError: Many and First say the same error.
func wantError(t *testing.T, s api.Signature, x problem, want api.Errno) {
	t.Helper()
	wantMany(t, s, x, nil, want)
	wantFirst(t, s, x, nil, false, want)
}

func wantIs(t *testing.T, s api.Signature, p, q api.Term, b []api.Bind, want bool, wantE api.Errno) {
	t.Helper()
	if got, e := match.Is(s, p, q, b); got != want || e != wantE {
		t.Errorf("Is of %v with %s: %v, %d; want %v, %d", of(p, q), toldBinds(b), got, e, want, wantE)
	}
}

// with puts terms in the places of variables, at one stroke, however great it grows.
func with(l []api.Bind, t api.Term) api.Term {
	if t.Var != "" {
		at := slices.IndexFunc(l, func(b api.Bind) bool { return b.Var == t.Var })
		if at < 0 {
			return t
		}
		return l[at].T
	}
	var args []api.Term
	for _, x := range t.Args {
		args = append(args, with(l, x))
	}
	t.Args = args
	return t
}

// vars are the Vars of a problem, and its constants.
func (x problem) vars() ([]string, []string) {
	constants := terms.Vars(sy(f, x.t...))
	vars := terms.Vars(sy(f, x.p...))
	return slices.DeleteFunc(vars, func(name string) bool { return slices.Contains(constants, name) }), constants
}

// units are the units of the symbols that stand in some pattern.
func (x problem) units(s api.Signature) []int {
	var l []int
	for _, y := range terms.All(sy(-1, x.p...)) {
		if y.Var == "" && y.Sym >= 0 && s[y.Sym].Kind == api.ACU {
			l = append(l, slices.IndexFunc(s, func(z api.Symbol) bool { return z.Name == s[y.Sym].Unit }))
		}
	}
	slices.Sort(l)
	return slices.Compact(l)
}

// waysOf are all ways, by the first variable first; none, if there are more than most.
func waysOf(places []int, vars []string, most int) [][]api.Bind {
	ways := [][]api.Bind{nil}
	for _, name := range vars {
		var longer [][]api.Bind
		for _, way := range ways {
			longer = append(longer, way)
			for _, place := range places {
				longer = append(longer, append(slices.Clip(way), bind(name, sy(place))))
			}
		}
		if ways = longer; len(ways) > most {
			return nil
		}
	}
	return ways
}

// tally is what the chapter's words make of a right problem, said again with counts: how many ways there are, states and leaves, and how many states were made when the first leaf was taken up.
type tally struct {
	s, plain           api.Signature
	vars, constants    []string
	ways, made, leaves int
	first              []api.Bind
	madeAhead          int
	list               [][]api.Bind
	e                  api.Errno
}

// node is a state: pairs, and what is bound.
type node struct {
	p, t  []api.Term
	binds []api.Bind
}

func again(s api.Signature, x problem) *tally {
	y := &tally{s: s, plain: sig.Plain(s)}
	y.vars, y.constants = x.vars()
	ways := waysOf(x.units(s), y.vars, 4096)
	y.ways = len(ways)
	if ways == nil {
		y.e = 2
		return y
	}
	for _, way := range ways {
		var root node
		for i := range x.p {
			root.p = append(root.p, canon.Canon(s, with(way, x.p[i])))
			root.t = append(root.t, canon.Canon(s, x.t[i]))
		}
		y.made++
		y.walk(way, root)
		if y.made > 20000 {
			y.e = 2
		}
		if y.e != api.OK {
			return y
		}
	}
	slices.SortFunc(y.list, func(k, l []api.Bind) int {
		for i := range k {
			if c := terms.Compare(k[i].T, l[i].T); c != 0 {
				return c
			}
		}
		return 0
	})
	y.list = slices.CompactFunc(y.list, func(k, l []api.Bind) bool { return toldBinds(k) == toldBinds(l) })
	if len(y.list) > 200 {
		y.e = 2
	}
	return y
}

func (y *tally) walk(way []api.Bind, x node) {
	if y.e != api.OK || y.made > 20000 {
		return
	}
	if len(x.p) == 0 {
		y.leaf(slices.Concat(way, x.binds))
		return
	}
	children := y.children(x)
	y.made += len(children)
	for _, c := range children {
		y.walk(way, c)
	}
}

func (y *tally) leaf(l []api.Bind) {
	slices.SortFunc(l, func(x, z api.Bind) int { return strings.Compare(x.Var, z.Var) })
	for i := range l {
		l[i].T = canon.Canon(y.s, l[i].T)
	}
	if y.leaves == 0 {
		y.first, y.madeAhead = l, y.made
	}
	y.leaves++
	y.list = append(y.list, l)
}

// known is what a constant, or a variable that is bound, stands for.
func (y *tally) known(x node, p api.Term) (api.Term, bool) {
	if p.Var == "" || slices.Contains(y.constants, p.Var) {
		return p, p.Var != ""
	}
	t := with(x.binds, p)
	return t, t.Var != p.Var
}

// next is a state of the rest of the pairs, with others ahead, and some binds more.
func (x node) next(p, t []api.Term, more ...api.Bind) node {
	return node{slices.Concat(p, x.p[1:]), slices.Concat(t, x.t[1:]), slices.Concat(x.binds, more)}
}

func (y *tally) children(x node) []node {
	p, t := x.p[0], x.t[0]
	known, isKnown := y.known(x, p)
	switch {
	case isKnown && terms.Same(known, t):
		return []node{x.next(nil, nil)}
	case isKnown:
		return nil
	case p.Var != "":
		return []node{x.next(nil, nil, bind(p.Var, t))}
	case t.Var != "" || t.Sym != p.Sym:
		return nil
	case y.s[p.Sym].Kind == api.Free:
		return []node{x.next(p.Args, t.Args)}
	}
	return y.sums(x, p.Sym, bag.Of(terms.Compare, p.Args...), bag.Of(terms.Compare, t.Args...))
}

func (y *tally) sums(x node, sym int, p, t *bag.Bag[api.Term]) []node {
	for _, q := range p.List() {
		known, isKnown := y.known(x, q)
		if !isKnown {
			continue
		}
		p.Add(q, -1)
		for _, part := range canon.Parts(y.plain, sym, known) {
			if !t.Add(part, -1) {
				return nil
			}
		}
	}
	for _, q := range p.Items() {
		if q.X.Var == "" {
			return y.tried(x, sym, q.X, p, t)
		}
	}
	return y.dealt(x, sym, p.Items(), t.Items())
}

// tried holds q against each of the subject's arguments.
func (y *tally) tried(x node, sym int, q api.Term, p, t *bag.Bag[api.Term]) []node {
	var l []node
	for _, u := range t.Items() {
		k := p.Less(bag.Of(terms.Compare, q)).List()
		m := t.Less(bag.Of(terms.Compare, u.X)).List()
		switch {
		case len(k) == 0 && len(m) == 0:
			l = append(l, x.next([]api.Term{q}, []api.Term{u.X}))
		case len(k) > 0 && len(m) > 0:
			l = append(l, x.next([]api.Term{q, y.join(sym, k)}, []api.Term{u.X, y.join(sym, m)}))
		}
	}
	return l
}

func (y *tally) join(sym int, l []api.Term) api.Term {
	t, _ := canon.Join(y.plain, sym, l)
	return t
}

func (y *tally) dealt(x node, sym int, p, t []bag.Item[api.Term]) []node {
	part := func(n func(i int) int) api.Term {
		var l []api.Term
		for i := range t {
			l = append(l, many(n(i), t[i].X)...)
		}
		return y.join(sym, l)
	}
	var m, k []int
	for _, item := range t {
		m = append(m, item.N)
	}
	for _, item := range p {
		k = append(k, item.N)
	}
	switch {
	case len(p) == 0 && len(t) == 0:
		return []node{x.next(nil, nil)}
	case len(p) == 0 || len(p) == 1 && len(t) == 0 || len(p) == 1 && slices.ContainsFunc(m, func(n int) bool { return n%k[0] != 0 }):
		return nil
	case len(p) == 1:
		return []node{x.next(nil, nil, bind(p[0].X.Var, part(func(i int) int { return m[i] / k[0] })))}
	case split.Check(m, k) != api.OK:
		y.e = 2
		return nil
	}
	var l []node
	for way := range split.All(m, k, false) {
		var more []api.Bind
		for j := range p {
			more = append(more, bind(p[j].X.Var, part(func(i int) int { return way[j][i] })))
		}
		l = append(l, x.next(nil, nil, more...))
		if len(l) > 20000 {
			break
		}
	}
	return l
}

// wantAgain holds Many and First against the chapter's words said again.
func wantAgain(t *testing.T, s api.Signature, x problem) *tally {
	t.Helper()
	y := again(s, x)
	if y.e == api.OK {
		wantMany(t, s, x, y.list, api.OK)
		wantFirst(t, s, x, y.first, y.leaves > 0, api.OK)
		return y
	}
	wantMany(t, s, x, nil, y.e)
	if y.leaves > 0 {
		wantFirst(t, s, x, y.first, true, api.OK)
	} else {
		wantFirst(t, s, x, nil, false, y.e)
	}
	return y
}

// maker makes terms and problems by a rule that is the same at each run.
type maker struct{ *rand.Rand }

func newMaker(seed int64) maker { return maker{rand.New(rand.NewSource(seed))} }

func varNames() []string { return []string{"X", "Xa", "Y", "Z", "W"} }

// right makes a right term of about so many nodes, of some variables.
func (m maker) right(s api.Signature, n int, vars ...string) api.Term {
	var fitting []int
	for sym, x := range s {
		if (x.Kind == api.Free && x.Arity == 0) == (n < 3) {
			fitting = append(fitting, sym)
		}
	}
	if len(vars) > 0 && (n < 3 && m.Intn(3) > 0 || len(fitting) == 0) {
		return v(vars[m.Intn(len(vars))])
	}
	sym := fitting[m.Intn(len(fitting))]
	many := s[sym].Arity
	if s[sym].Kind != api.Free {
		many += m.Intn(3)
	}
	var args []api.Term
	for range many {
		args = append(args, m.right(s, (n-1)/many, vars...))
	}
	return sy(sym, args...)
}

// sums makes a sum of few arguments, of which some are sums.
func (m maker) sums(s api.Signature, most int, vars ...string) api.Term {
	var gathering []int
	for sym, x := range s {
		if x.Kind != api.Free {
			gathering = append(gathering, sym)
		}
	}
	t := sy(gathering[m.Intn(len(gathering))])
	for range 2 + m.Intn(most-1) {
		t.Args = append(t.Args, m.right(s, 1+m.Intn(3), vars...))
	}
	return t
}

// pattern makes any term or a sum, of the first so many variables.
func (m maker) pattern(s api.Signature, most, vars int) api.Term {
	if m.Intn(2) == 0 {
		return m.sums(s, 4, varNames()[:vars]...)
	}
	return m.right(s, 1+m.Intn(most), varNames()[:vars]...)
}

// constants are names that variables of subjects have; one may stand in patterns, too.
func (m maker) constants() []string {
	if m.Intn(4) == 0 {
		return []string{"C", varNames()[m.Intn(3)]}
	}
	return []string{"C", "D"}
}

// subject makes one of which a pattern is an instance, mostly; written in another way than the pattern.
func (m maker) subject(s api.Signature, values []api.Bind, p api.Term, constants []string) api.Term {
	switch m.Intn(6) {
	case 0:
		return m.right(s, 1+m.Intn(9), constants...)
	case 1:
		return m.sums(s, 5, constants...)
	}
	return m.mixed(s, with(values, p))
}

// values are terms for the variables of patterns: small ones, and units.
func (m maker) values(s api.Signature, most int, constants []string) []api.Bind {
	var l []api.Bind
	for _, name := range varNames() {
		l = append(l, bind(name, m.right(s, 1+m.Intn(most), constants...)))
	}
	return l
}

// problem makes one of some pairs, of right terms, not canonical ones.
func (m maker) problem(s api.Signature, pairs, most, vars int) problem {
	constants := m.constants()
	values := m.values(s, 3, constants)
	var x problem
	for range pairs {
		p := m.pattern(s, most, vars)
		x.p, x.t = append(x.p, p), append(x.t, m.subject(s, values, p, constants))
	}
	return x
}

// mixed writes a term in another way: arguments of sums change places, are laid together or apart, units come and go.
func (m maker) mixed(s api.Signature, t api.Term) api.Term {
	if t.Var != "" {
		return t
	}
	var args []api.Term
	for _, x := range t.Args {
		args = append(args, m.mixed(s, x))
	}
	if s[t.Sym].Kind == api.Free {
		return sy(t.Sym, args...)
	}
	unit := slices.IndexFunc(s, func(x api.Symbol) bool { return x.Name == s[t.Sym].Unit })
	if unit >= 0 && m.Intn(3) == 0 {
		args = append(args, sy(unit))
	}
	m.Shuffle(len(args), func(i, j int) { args[i], args[j] = args[j], args[i] })
	for len(args) > 2 && m.Intn(3) == 0 {
		n := 2 + m.Intn(len(args)-2)
		args = append([]api.Term{sy(t.Sym, args[:n]...)}, args[n:]...)
	}
	return sy(t.Sym, args...)
}

// spoilt makes a term of which some nodes may be wrong.
func (m maker) spoilt(s api.Signature, n int) api.Term {
	t := m.right(s, n, varNames()...)
	for range m.Intn(4) {
		at := &t
		for len(at.Args) > 0 && m.Intn(4) > 0 {
			at = &at.Args[m.Intn(len(at.Args))]
		}
		switch m.Intn(5) {
		case 0:
			at.Var = []string{"X", "Y", "x", "", "_0", "_1", "Abcdefghijklm"}[m.Intn(7)]
		case 1:
			at.Sym = []int{-1, 0, 1, 3, 5, 99, -1 << 63, 1<<63 - 1}[m.Intn(8)]
		case 2:
			at.Args = at.Args[:m.Intn(len(at.Args)+1)]
		default:
			at.Args = slices.Insert(slices.Clone(at.Args), m.Intn(len(at.Args)+1), m.right(s, 3, varNames()...))
		}
	}
	return t
}

// tower is a term of just n nodes, one within the other.
func tower(n int, leaf api.Term) api.Term {
	for range n - 1 {
		leaf = sy(g, leaf)
	}
	return leaf
}

// many is a term again and again.
func many(n int, t api.Term) []api.Term { return slices.Repeat([]api.Term{t}, n) }

// apart are n terms of two nodes, no two alike, of one constant each.
func apart(n int) []api.Term {
	var l []api.Term
	for i := range n {
		l = append(l, sy(g, v("C"+strconv.Itoa(1000+i))))
	}
	return l
}

// steps is a problem of just n states in each way, beside those of what stands behind it: each node of a pattern that has no variable is one.
func steps(s api.Signature, n int) problem {
	leaf := slices.IndexFunc(s, func(x api.Symbol) bool { return x.Kind == api.Free && x.Arity == 0 })
	sym := slices.IndexFunc(s, func(x api.Symbol) bool { return x.Kind == api.Free && x.Arity > 0 })
	var x problem
	for n > 0 {
		t := sy(leaf)
		for range (min(n, 400) - 1) / s[sym].Arity {
			t = sy(sym, append(many(s[sym].Arity-1, sy(leaf)), t)...)
		}
		x.p, x.t = append(x.p, t), append(x.t, t)
		n -= terms.Size(t)
	}
	return x
}
