package step

import (
	"slices"
	"strings"

	"amalgam/api"
	"amalgam/terms"
)

// solver is equations of free symbols on the way to their answer. Its terms lie on memory that was handed in, and share it: none of it is ever written on.
type solver struct {
	list
	binds
}

// set binds a variable, which is gone then wherever it stood; false, if a term grows too much by that.
func (x *solver) set(b api.Bind) bool {
	p := &putting{Bind: b, nodes: terms.Size(b.T)}
	if !x.putInSides(p) || !x.putInBound(p) {
		return false
	}
	x.add(b)
	return true
}

// list is the equations that are left, the first one at the end: what stands in its place is laid there, and no other one is moved.
type list struct{ equations []api.Equation }

// take takes the first equation out, if there is one.
func (l *list) take() (api.Equation, bool) {
	last := len(l.equations) - 1
	if last < 0 {
		return api.Equation{}, false
	}
	e := l.equations[last]
	l.equations = l.equations[:last]
	return e, true
}

// lay puts equations ahead of the others, in their order.
func (l *list) lay(ahead []api.Equation) {
	for _, e := range slices.Backward(ahead) {
		l.equations = append(l.equations, e)
	}
}

func (l *list) putInSides(p *putting) bool {
	for i := range l.equations {
		e := &l.equations[i]
		if !p.putIn(&e.L) || !p.putIn(&e.R) {
			return false
		}
	}
	return true
}

// binds are the variables that are bound, as they came.
type binds struct{ bound []api.Bind }

func (b *binds) add(x api.Bind) { b.bound = append(b.bound, x) }

func (b *binds) putInBound(p *putting) bool {
	for i := range b.bound {
		if !p.putIn(&b.bound[i].T) {
			return false
		}
	}
	return true
}

// told are the binds by rising variables, in new memory.
func (b *binds) told() []api.Bind {
	l := make([]api.Bind, len(b.bound))
	for i, x := range b.bound {
		l[i] = api.Bind{Var: x.Var, T: terms.Clone(x.T)}
	}
	slices.SortFunc(l, func(x, y api.Bind) int { return strings.Compare(x.Var, y.Var) })
	return l
}

// putting is a bind that is put in, with how many nodes its term has. It stands beside subst's Apply, which promises something of right signatures and right terms alone: here they may be any.
type putting struct {
	api.Bind
	nodes int
}

// putIn makes a term what it is with the bind; false, if that has too many nodes.
func (p *putting) putIn(t *api.Term) bool {
	if p.left(*t, api.MaxGrown) < 0 {
		return false
	}
	if x, stood := p.with(*t); stood {
		*t = x
	}
	return true
}

// left is what is left of the room for nodes behind those of a term with the bind; below 0, as soon as there is not enough.
func (p *putting) left(t api.Term, room int) int {
	if t.Var == p.Var {
		return room - p.nodes
	}
	room--
	for _, x := range t.Args {
		if room < 0 {
			break
		}
		room = p.left(x, room)
	}
	return room
}

// with is a term with the bind, and whether the variable stood in it: lists without it need no copy.
func (p *putting) with(t api.Term) (api.Term, bool) {
	if t.Var == p.Var {
		return p.T, true
	}
	var args []api.Term
	for i, x := range t.Args {
		y, stood := p.with(x)
		if !stood {
			continue
		}
		if args == nil {
			args = slices.Clone(t.Args)
		}
		args[i] = y
	}
	if args != nil {
		t.Args = args
	}
	return t, args != nil
}
