package instance

import (
	"slices"
	"strconv"
	"strings"

	"amalgam/api"
	"amalgam/terms"
)

// names are other names for the variables of patterns, there and back. None of them is taken by a subject: to match, a variable that stands on both sides is a constant, but here it may be bound.
type names struct {
	taken map[string]struct{}
	// there has the other variables by the old names, back the old ones by the other names.
	there, back map[string]api.Term
	last        int
}

func newNames(subjects []api.Term) *names {
	n := &names{taken: map[string]struct{}{}, there: map[string]api.Term{}, back: map[string]api.Term{}}
	for _, t := range subjects {
		for _, name := range terms.Vars(t) {
			n.taken[name] = struct{}{}
		}
	}
	return n
}

// rename is a term with the other names. They are given as their variables are met, so by first places, as long as terms are renamed one behind the other.
func (n *names) rename(t api.Term) api.Term {
	if t.Var != "" {
		return n.other(t)
	}
	return api.Term{Sym: t.Sym, Args: each(t.Args, n.rename)}
}

// other is what a variable is called.
func (n *names) other(old api.Term) api.Term {
	x, known := n.there[old.Var]
	if !known {
		x = n.next()
		n.there[old.Var], n.back[x.Var] = x, old
	}
	return x
}

// next is a variable with the next name that is not taken.
func (n *names) next() api.Term {
	for {
		n.last++
		name := "_" + strconv.Itoa(n.last)
		if _, taken := n.taken[name]; !taken {
			return api.Term{Var: name}
		}
	}
}

// turnBack is a matcher under the old names: a substitution.
func (n *names) turnBack(found []api.Bind) []api.Bind {
	var l []api.Bind
	for _, x := range found {
		if old := n.back[x.Var]; !terms.Same(old, x.T) {
			l = append(l, api.Bind{Var: old.Var, T: x.T})
		}
	}
	slices.SortFunc(l, func(x, y api.Bind) int { return strings.Compare(x.Var, y.Var) })
	return l
}
