package session

import (
	"strconv"
	"strings"

	"amalgam/api"
	"amalgam/canon"
	"amalgam/derive"
	"amalgam/instance"
	"amalgam/linsolve"
	"amalgam/match"
	"amalgam/minimise"
	"amalgam/proof"
	"amalgam/sig"
	"amalgam/subst"
	"amalgam/terms"
	"amalgam/text"
	"amalgam/unify"
)

// row is one of the document's table: what it asks of the words behind the first one, and what is done. A TERM and a MEMBER are numbers, which say a term, and a substitution of the list.
type row struct {
	asks string
	do   func(*session, given)
}

// rows are the table's, by their first words.
func rows() map[string]row {
	return map[string]row{
		"free":     {"NAME N", (*session).free},
		"ac":       {"NAME", (*session).ac},
		"acu":      {"NAME NAME", (*session).acu},
		"term":     {"TEXT", (*session).term},
		"show":     {"TERM", (*session).show},
		"canon":    {"TERM", (*session).canon},
		"size":     {"TERM", (*session).size},
		"vars":     {"TERM", (*session).vars},
		"equal":    {"TERM TERM", (*session).equal},
		"way":      {"TERM TERM", (*session).way},
		"unify":    {"TERM TERM", (*session).unify},
		"match":    {"TERM TERM", (*session).match},
		"minimise": {"", (*session).minimise},
		"proofs":   {"", (*session).proofs},
		"apply":    {"MEMBER TERM", (*session).apply},
		"instance": {"MEMBER MEMBER", (*session).instance},
		"basis":    {"N.. = N..", (*session).basis},
	}
}

func (x *session) free(g given) {
	x.declare(api.Symbol{Name: g.names[0], Kind: api.Free, Arity: g.numbers[0]})
}

func (x *session) ac(g given) {
	x.declare(api.Symbol{Name: g.names[0], Kind: api.AC, Arity: 2})
}

func (x *session) acu(g given) {
	x.declare(api.Symbol{Name: g.names[0], Kind: api.ACU, Arity: 2, Unit: g.names[1]})
}

func (x *session) declare(y api.Symbol) {
	all := append(x.symbols, y)
	if e, _ := sig.Check(all); !x.failed(e) {
		x.symbols = all
		x.tell("ok")
	}
}

func (x *session) term(g given) {
	if len(x.terms) == api.MaxHandles {
		x.failed(api.ErrTooMany)
		return
	}
	t, e, at := text.Term(x.symbols, g.text)
	if e != api.OK {
		x.tellNumber("error "+strconv.Itoa(int(e))+" at", at)
		return
	}
	x.tellNumber("term", len(x.terms))
	x.terms = append(x.terms, t)
}

func (x *session) show(g given) { x.tell(text.Show(x.symbols, g.terms[0])) }

func (x *session) canon(g given) {
	x.tell(text.Show(x.symbols, canon.Canon(x.symbols, g.terms[0])))
}

func (x *session) size(g given) { x.tell(strconv.Itoa(terms.Size(g.terms[0]))) }

func (x *session) vars(g given) { x.tell(orDash(strings.Join(terms.Vars(g.terms[0]), " "))) }

// orDash is what is told where there may be nothing to tell.
func orDash(line string) string {
	if line == "" {
		return "-"
	}
	return line
}

func (x *session) equal(g given) {
	x.tellWhether(canon.Equal(x.symbols, g.terms[0], g.terms[1]))
}

func (x *session) way(g given) {
	_, ok := derive.Way(x.symbols, g.terms[0], g.terms[1])
	x.tellWhether(ok)
}

func (x *session) unify(g given) { x.answer(unify.Unify, g.terms) }

func (x *session) match(g given) { x.answer(match.All, g.terms) }

// answer makes the list anew: it came from these two terms even where it is none, since there was an error.
func (x *session) answer(all func(s api.Signature, l, r api.Term) ([][]api.Bind, api.Errno), sides []api.Term) {
	l, e := all(x.symbols, sides[0], sides[1])
	x.list, x.sides = l, sides
	if !x.failed(e) {
		x.tellList()
	}
}

func (x *session) minimise(given) {
	l, e := minimise.Minimise(x.symbols, x.listVars(), x.list)
	if !x.failed(e) {
		x.list = l
		x.tellList()
	}
}

func (x *session) tellList() {
	for i, b := range x.list {
		x.tell(strconv.Itoa(i) + ": " + orDash(text.ShowBinds(x.symbols, b)))
	}
	x.tellNumber("end", len(x.list))
}

func (x *session) proofs(given) {
	if x.sides == nil {
		x.failed(api.ErrArg)
		return
	}
	for _, b := range x.list {
		if _, e := proof.Make(x.symbols, x.sides[0], x.sides[1], b); x.failed(e) {
			return
		}
	}
	x.tellNumber("holds", len(x.list))
}

func (x *session) apply(g given) {
	t, e := subst.Apply(x.symbols, g.members[0], g.terms[0])
	if !x.failed(e) {
		x.tell(text.Show(x.symbols, t))
	}
}

func (x *session) instance(g given) {
	_, is, e := instance.Is(x.symbols, x.listVars(), g.members[0], g.members[1])
	if !x.failed(e) {
		x.tellWhether(is)
	}
}

func (x *session) basis(g given) {
	l, e := linsolve.Basis(g.lists[0], g.lists[1])
	if x.failed(e) {
		return
	}
	for _, v := range l {
		x.tell(joined(v))
	}
	x.tellNumber("end", len(l))
}

// joined are numbers with a blank between.
func joined(l []int) string {
	words := make([]string, len(l))
	for i, n := range l {
		words[i] = strconv.Itoa(n)
	}
	return strings.Join(words, " ")
}
