package session

import (
	"strings"

	"amalgam/api"
)

// given is what the words behind a line's first one give to its row, each kind in the order in which the line names them.
type given struct {
	text    string
	names   []string
	numbers []int
	lists   [][]int
	terms   []api.Term
	members [][]api.Bind
	missing bool // a number says a term, or a member of the list, that there is not
}

// read takes just such words as a row asks for; false, if there are others.
func (x *session) read(asks string, words []string) (given, bool) {
	var g given
	for _, ask := range strings.Fields(asks) {
		n, ok := x.take(&g, ask, words)
		if !ok {
			return given{}, false
		}
		words = words[n:]
	}
	return g, len(words) == 0
}

// take tells how many of some words, from the first one on, are what is asked for.
func (x *session) take(g *given, ask string, words []string) (int, bool) {
	switch {
	case ask == "TEXT":
		g.text = strings.Join(words, " ")
		return len(words), true
	case ask == "N..":
		l := numbersAhead(words)
		g.lists = append(g.lists, l)
		return len(l), true
	case len(words) == 0:
		return 0, false
	}
	return 1, x.takeOne(g, ask, words[0])
}

func (x *session) takeOne(g *given, ask, word string) bool {
	switch ask {
	case "=":
		return word == "="
	case "NAME":
		g.names = append(g.names, word)
		return word != ""
	}
	n, ok := number(word)
	switch ask {
	case "N":
		g.numbers = append(g.numbers, n)
	case "TERM":
		g.terms = append(g.terms, find(g, x.terms, n))
	case "MEMBER":
		g.members = append(g.members, find(g, x.list, n))
	}
	return ok
}

// find does not give up where there is nothing: that a word further on makes the line a wrong one counts more.
func find[T any](g *given, l []T, n int) T {
	if n < 0 || n >= len(l) {
		g.missing = true
		var nothing T
		return nothing
	}
	return l[n]
}

// numbersAhead are as many numbers as follow.
func numbersAhead(words []string) []int {
	var l []int
	for _, word := range words {
		n, ok := number(word)
		if !ok {
			break
		}
		l = append(l, n)
	}
	return l
}

// maxDigits is how many digits a number may have.
const maxDigits = 6

// number reads a word that is one.
func number(word string) (int, bool) {
	if word == "0" {
		return 0, true
	}
	digits, below := strings.CutPrefix(word, "-")
	n := 0
	for i, r := range digits {
		if r < '0' || r > '9' || i == 0 && r == '0' || i == maxDigits {
			return 0, false
		}
		n = 10*n + int(r-'0')
	}
	if below {
		n = -n
	}
	return n, digits != ""
}
