package match

import (
	"slices"

	"amalgam/api"
	"amalgam/canon"
	"amalgam/split"
	"amalgam/terms"
)

// deal makes the children of two terms of one AC or ACU symbol.
func (w *walk) deal(x *pair) {
	p, t, ok := w.cancel(x)
	if !ok {
		return
	}
	if at := slices.IndexFunc(p, isNoVariable); at >= 0 {
		w.tryEach(x, p, at, t)
		return
	}
	takers, kinds := counted(p), counted(t)
	switch len(takers) {
	case 0:
		if len(kinds) == 0 {
			w.child(x.rest)
		}
	case 1:
		w.giveAll(x, takers[0], kinds)
	default:
		w.share(x, takers, kinds)
	}
}

func isNoVariable(t api.Term) bool { return t.Var == "" }

// cancel takes out of both sides' arguments what the pattern's constants and bound variables stand for; false, if the subject has not all that.
func (w *walk) cancel(x *pair) ([]api.Term, []api.Term, bool) {
	var p []api.Term
	t := x.t.Args
	for _, arg := range x.p.Args {
		known, isKnown := w.known(arg)
		if !isKnown {
			p = append(p, arg)
			continue
		}
		rest, ok := without(t, canon.Parts(w.plain, x.p.Sym, known))
		if !ok {
			return nil, nil, false
		}
		t = rest
	}
	return p, t, true
}

// known is what a constant or a bound variable stands for.
func (w *walk) known(t api.Term) (api.Term, bool) {
	if w.constants.has(t.Var) {
		return t, true
	}
	x, ok := w.bound[t.Var]
	return x, ok
}

// without is a list less some of its terms, both in order; false, if it has not all of them.
func without(l, less []api.Term) ([]api.Term, bool) {
	var rest []api.Term
	for _, x := range l {
		if len(less) > 0 && terms.Same(x, less[0]) {
			less = less[1:]
		} else {
			rest = append(rest, x)
		}
	}
	return rest, len(less) == 0
}

// tryEach holds the pattern's argument at a place against each of the subject's.
func (w *walk) tryEach(x *pair, p []api.Term, at int, t []api.Term) {
	// Else there would be others on one side alone.
	if (len(p) == 1) != (len(t) == 1) {
		return
	}
	others := left(p, at)
	for i, u := range t {
		if i == 0 || !terms.Same(u, t[i-1]) {
			w.child(&pair{p: p[at], t: u, rest: behind(x, others, left(t, i))})
		}
	}
}

// behind is the pair of what is left of both sides' arguments, ahead of the rest; the rest alone, if nothing is left.
func behind(x *pair, p, t []api.Term) *pair {
	if len(p) == 0 {
		return x.rest
	}
	return &pair{p: sum(x.p.Sym, p), t: sum(x.p.Sym, t), rest: x.rest}
}

// left is what is left of a list without one of its places.
func left(l []api.Term, at int) []api.Term { return slices.Concat(l[:at], l[at+1:]) }

// sum is what canon's Join makes of arguments that are in order, none of them of the symbol itself. Join would copy all that lies beneath them, for each of thousands of children.
func sum(sym int, l []api.Term) api.Term {
	if len(l) == 1 {
		return l[0]
	}
	return api.Term{Sym: sym, Args: l}
}

// item is a term, and how often it stands in a list.
type item struct {
	t api.Term
	n int
}

// counted are the terms of a list that is in order, each once.
func counted(l []api.Term) []item {
	var items []item
	for i, x := range l {
		if i > 0 && terms.Same(x, l[i-1]) {
			items[len(items)-1].n++
		} else {
			items = append(items, item{t: x, n: 1})
		}
	}
	return items
}

func numbers(items []item) []int {
	l := make([]int, len(items))
	for i, x := range items {
		l[i] = x.n
	}
	return l
}

// giveAll gives all of the subject's arguments to the only variable; no limit of split's holds for it.
func (w *walk) giveAll(x *pair, taker item, kinds []item) {
	if len(kinds) == 0 {
		return
	}
	part := make([]int, len(kinds))
	for i, kind := range kinds {
		if kind.n%taker.n != 0 {
			return
		}
		part[i] = kind.n / taker.n
	}
	w.child(x.rest, bindOf(x.p.Sym, taker, kinds, part))
}

// share deals the subject's arguments out to several variables, in every way.
func (w *walk) share(x *pair, takers, kinds []item) {
	m, k := numbers(kinds), numbers(takers)
	if split.Check(m, k) != api.OK {
		w.fail()
		return
	}
	for way := range split.All(m, k, false) {
		binds := make([]api.Bind, len(takers))
		for i, taker := range takers {
			binds[i] = bindOf(x.p.Sym, taker, kinds, way[i])
		}
		// There may be more ways than anyone can go through.
		if w.child(x.rest, binds...); w.failed {
			return
		}
	}
}

// bindOf binds a taker to the sum of its part, which is not empty.
func bindOf(sym int, taker item, kinds []item, part []int) api.Bind {
	var l []api.Term
	for i, kind := range kinds {
		l = append(l, slices.Repeat([]api.Term{kind.t}, part[i])...)
	}
	return api.Bind{Var: taker.t.Var, T: sum(sym, l)}
}
