package match

import (
	"iter"
	"slices"

	"amalgam/api"
	"amalgam/canon"
	"amalgam/sig"
	"amalgam/subst"
	"amalgam/terms"
	"amalgam/units"
)

// pair is a pattern and a subject, and the pairs behind it, which many states share.
type pair struct {
	p, t api.Term
	rest *pair
	// raw says that the pattern is as it was handed in. It is made ready when its turn comes: most ways end ahead of most pairs.
	raw bool
}

// state has pairs, and binds: those of the state above it, which are so many, and its own.
type state struct {
	pairs *pair
	ahead int
	binds []api.Bind
}

// walk goes through the trees of all ways, depth first, its states on a stack.
type walk struct {
	s, plain  api.Signature
	constants set
	vars      []string
	units     []int
	root      *pair
	makers    map[shape]func(*walk, *pair)

	way    []api.Bind
	stack  []state
	made   int
	failed bool

	// bound is all that is bound in the state that was taken up last, trail the order in which it was: so a state on the stack need not have all its binds, but its own alone.
	bound map[string]api.Term
	trail []string
}

func newWalk(s api.Signature, p, t []api.Term) *walk {
	constants := setOf(varsOf(t))
	return &walk{
		s:         s,
		plain:     sig.Plain(s),
		constants: constants,
		vars:      others(varsOf(p), constants),
		units:     unitsOf(s, p),
		root:      rootOf(s, p, t),
		makers:    makers(),
		bound:     map[string]api.Term{},
	}
}

func unitsOf(s api.Signature, p []api.Term) []int {
	var l []int
	for _, x := range p {
		l = append(l, units.Of(s, x, x)...)
	}
	slices.Sort(l)
	return slices.Compact(l)
}

func rootOf(s api.Signature, p, t []api.Term) *pair {
	var root *pair
	for i, x := range slices.Backward(p) {
		root = &pair{p: x, t: canon.Canon(s, t[i]), rest: root, raw: true}
	}
	return root
}

// matchers goes through what the leaves tell, in the walk's order; it may tell one more than once.
func (w *walk) matchers() iter.Seq[[]api.Bind] {
	return func(yield func([]api.Bind) bool) {
		if units.Many(w.units, w.vars, api.MaxWays+1) > api.MaxWays {
			w.fail()
			return
		}
		for way := range units.All(w.units, w.vars) {
			w.begin(way)
			for len(w.stack) > 0 {
				if w.step() && !yield(w.matcher()) {
					return
				}
			}
			if w.failed {
				return
			}
		}
	}
}

// begin makes the root of a way. The way's binds may as well be the root's own: in no pattern do these variables stand any more, once it is ready.
func (w *walk) begin(way []api.Bind) {
	w.way = way
	w.add(state{pairs: w.root, binds: way})
}

// step takes up the state on top: is it a leaf?
func (w *walk) step() bool {
	x := w.take()
	if x.pairs == nil {
		return true
	}
	below := len(w.stack)
	first := w.ready(x.pairs)
	w.makers[w.shapeOf(first)](w, first)
	if !w.failed {
		// They were made in their order; the first one is to be taken up first.
		slices.Reverse(w.stack[below:])
	}
	return false
}

// take lets go of the state in the stack's memory, too: nothing asks for it again.
func (w *walk) take() state {
	top := len(w.stack) - 1
	x := w.stack[top]
	w.stack = slices.Delete(w.stack, top, top+1)
	for _, name := range w.trail[x.ahead:] {
		delete(w.bound, name)
	}
	w.trail = w.trail[:x.ahead]
	for _, b := range x.binds {
		w.bound[b.Var] = b.T
		w.trail = append(w.trail, b.Var)
	}
	return x
}

// ready has no error of Apply: a unit is one node, as the variable is for which it stands.
func (w *walk) ready(x *pair) *pair {
	if !x.raw {
		return x
	}
	p, _ := subst.Apply(w.s, w.way, x.p)
	return &pair{p: p, t: x.t, rest: x.rest}
}

// child makes a child of the state that was taken up.
func (w *walk) child(pairs *pair, binds ...api.Bind) {
	w.add(state{pairs: pairs, ahead: len(w.trail), binds: binds})
}

// add counts a state and lays it on the stack, while there are not too many.
func (w *walk) add(x state) {
	w.made++
	if w.made > api.MaxWalk {
		w.fail()
		return
	}
	w.stack = append(w.stack, x)
}

func (w *walk) fail() { w.failed, w.stack = true, nil }

// matcher is what is bound at a leaf, in new memory: there all of the Vars are.
func (w *walk) matcher() []api.Bind {
	l := make([]api.Bind, len(w.vars))
	for i, name := range w.vars {
		l[i] = api.Bind{Var: name, T: canon.Canon(w.s, w.bound[name])}
	}
	return l
}

// shape is what a pair looks like, as far as its children hang on that.
type shape int

const (
	constant shape = iota
	bound
	unbound
	unlike
	free
	sums
)

// makers make the children, by the shape of the first pair.
func makers() map[shape]func(*walk, *pair) {
	return map[shape]func(*walk, *pair){
		constant: (*walk).meet,
		bound:    (*walk).meetBound,
		unbound:  (*walk).bind,
		unlike:   (*walk).leave,
		free:     (*walk).open,
		sums:     (*walk).deal,
	}
}

func (w *walk) shapeOf(x *pair) shape {
	_, isBound := w.bound[x.p.Var]
	switch {
	case w.constants.has(x.p.Var):
		return constant
	case isBound:
		return bound
	case x.p.Var != "":
		return unbound
	case x.t.Var != "" || x.t.Sym != x.p.Sym:
		return unlike
	case w.plain[x.p.Sym].Kind == api.Free:
		return free
	}
	return sums
}

// meet asks whether a pattern that nothing changes any more is its subject.
func (w *walk) meet(x *pair) {
	if terms.Same(x.p, x.t) {
		w.child(x.rest)
	}
}

func (w *walk) meetBound(x *pair) {
	w.meet(&pair{p: w.bound[x.p.Var], t: x.t, rest: x.rest})
}

func (w *walk) bind(x *pair) {
	w.child(x.rest, api.Bind{Var: x.p.Var, T: x.t})
}

// leave makes no child: nothing makes the one of the other.
func (w *walk) leave(*pair) {}

func (w *walk) open(x *pair) {
	rest := x.rest
	for i, p := range slices.Backward(x.p.Args) {
		rest = &pair{p: p, t: x.t.Args[i], rest: rest}
	}
	w.child(rest)
}
