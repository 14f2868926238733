package session_test

import (
	"math/rand"
	"strconv"
	"strings"
)

// maker makes scripts by a rule that is the same at each run.
type maker struct{ *rand.Rand }

func newMaker(seed int64) maker { return maker{rand.New(rand.NewSource(seed))} }

func (m maker) of(l ...string) string { return l[m.Intn(len(l))] }

// term makes a text of a term of about so many nodes, of the first so many variables; nearly all of its symbols are declared.
func (m maker) term(n, vars int) string {
	if n < 3 {
		if m.Intn(3) > 0 {
			return []string{"X", "Y", "Z", "W", "Xa"}[m.Intn(vars)]
		}
		return m.of("a", "a", "b", "one", "zero")
	}
	switch m.Intn(9) {
	case 0:
		return "g(" + m.term(n-1, vars) + ")"
	case 1, 2:
		return "f(" + m.term((n-1)/2, vars) + "," + m.term((n-1)/2, vars) + ")"
	}
	many := 2 + m.Intn(2)
	var args []string
	for range many {
		args = append(args, m.term((n-1)/many, vars))
	}
	return m.of("plus", "plus", "plus", "times", "times", "sum", "both") + "(" + strings.Join(args, ",") + ")"
}

// sides are two terms' texts that may well have something in common.
func (m maker) sides() (string, string) {
	vars := 2 + m.Intn(3)
	switch m.Intn(4) {
	case 0:
		return m.term(1+m.Intn(8), vars), m.term(1+m.Intn(8), vars)
	case 1:
		return "f(" + m.term(1+m.Intn(5), vars) + "," + m.term(1+m.Intn(5), vars) + ")", "f(" + m.term(1+m.Intn(5), vars) + "," + m.term(1+m.Intn(5), vars) + ")"
	}
	name := m.of("plus", "times", "sum")
	side := func() string {
		var args []string
		for range 2 + m.Intn(2) {
			args = append(args, m.term(1+m.Intn(3), vars))
		}
		return name + "(" + strings.Join(args, ",") + ")"
	}
	return side(), side()
}

// number is one that may well name something.
func (m maker) number() string {
	if m.Intn(12) == 0 {
		return m.of("-1", "7", "19", "20", "999999", "-999999")
	}
	return strconv.Itoa(m.Intn(4))
}

func (m maker) numbers(most int) string {
	line := ""
	for range m.Intn(most + 1) {
		line += " " + strconv.Itoa(1+m.Intn(3))
	}
	if m.Intn(10) == 0 {
		line += m.of(" 0", " 7", " 6", " -1", " 1 1 1 1 1")
	}
	return line
}

// line is a right line, of any row; its numbers may name nothing.
func (m maker) line() string {
	name := m.of("a", "b", "c", "f", "h", "or", "and", "A", "plus", "i1", "x", "=", "abcdefghijklm")
	switch m.Intn(16) {
	case 0:
		return "free " + name + " " + m.of("0", "1", "2", "3", "4", "5", "-1")
	case 1:
		return m.of("ac "+name, "acu "+name+" "+m.of("a", "one", "zero", "f", "c"))
	case 2, 3:
		return "term " + m.term(1+m.Intn(8), 4)
	case 4:
		return "term " + m.of("", " X ", "f(X", "f(X)", "X Y", "[", "d", "f()", "_1", "plus(_2,X)")
	case 5:
		return m.of("show ", "canon ", "size ", "vars ") + m.number()
	case 6:
		return m.of("equal ", "way ") + m.number() + " " + m.number()
	case 7, 8:
		return "unify " + m.number() + " " + m.number()
	case 9:
		return "match " + m.number() + " " + m.number()
	case 10, 11:
		return m.of("minimise", "minimise", "proofs")
	case 12:
		return "apply " + m.number() + " " + m.number()
	case 13:
		return "instance " + m.number() + " " + m.number()
	case 14:
		return "basis" + m.numbers(3) + " =" + m.numbers(3)
	}
	return m.of("", "#", "# show 0", "#\xff")
}

// script has so many lines at most, all of them right; most begin with what is declared, and two terms that have something in common.
func (m maker) script(most int) []string {
	var l []string
	if m.Intn(8) > 0 {
		left, right := m.sides()
		l = append(strings.Split(strings.TrimSuffix(declared, "\n"), "\n"), "term "+left, "term "+right, m.of("unify", "unify", "match")+" 0 1")
	}
	if m.Intn(8) == 0 {
		l = append(l, "free c1 0", "ac c2", "free c3 1", "free c4 4", "acu c5 c1", "free c6 0")
	}
	for range m.Intn(most + 1) {
		l = append(l, m.line())
	}
	return l
}

// spoilt is a line in which a byte has gone, come, or become another one; or a word has.
func (m maker) spoilt(line string) string {
	at := m.Intn(len(line) + 1)
	words := strings.Split(line, " ")
	word := m.Intn(len(words))
	switch m.Intn(6) {
	case 0:
		return line[:at] + m.of(" ", "0", "1", "-", "#", "=", "a", "A", "\t", "\r", "\x00", "\xff") + line[at:]
	case 1:
		return line[:at] + line[min(at+1, len(line)):]
	case 2:
		return line[:at] + m.of(" ", "0", "9", "x", "\xff") + line[min(at+1, len(line)):]
	case 3:
		return strings.Join(words[:word], " ")
	case 4:
		return strings.Join(words[word:], " ")
	}
	return line + " " + m.of("", "0", "a", "=", "00", "-0")
}
