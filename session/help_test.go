package session_test

import (
	"regexp"
	"slices"
	"strconv"
	"strings"
	"testing"

	"amalgam/api"
	"amalgam/canon"
	"amalgam/derive"
	"amalgam/instance"
	"amalgam/linsolve"
	"amalgam/match"
	"amalgam/minimise"
	"amalgam/proof"
	"amalgam/session"
	"amalgam/sig"
	"amalgam/subst"
	"amalgam/terms"
	"amalgam/text"
	"amalgam/unify"
)

// declared are the lines that declare the document's symbols, and some more: two units, of which the one is that of two symbols.
const declared = "free a 0\nfree one 0\nfree f 2\nac plus\nacu times one\nfree b 0\nfree g 1\nfree zero 0\nacu sum zero\nacu both one\n"

// oks is what declared tells.
var oks = strings.Repeat("ok\n", 10)

// lines are a script, and what it tells: a text of lines each.
func lines(l ...string) string {
	if len(l) == 0 {
		return ""
	}
	return strings.Join(l, "\n") + "\n"
}

// short is a text that is not too long to be read.
func short(text string) string {
	if len(text) > 600 {
		return text[:200] + " .. " + text[len(text)-400:]
	}
	return text
}

// want: a script is right, and tells this; with or without a newline at its end.
func want(t *testing.T, script, told string) {
	t.Helper()
	wantRun(t, script, told, 0, api.OK)
	if whole, ends := strings.CutSuffix(script, "\n"); ends && !strings.HasSuffix(whole, "\n") && whole != "" {
		wantRun(t, whole, told, 0, api.OK)
	}
}

// wantWrong: a script tells this, and ends at this line, whatever stands behind it.
func wantWrong(t *testing.T, script, told string, line int) {
	t.Helper()
	wantRun(t, script, told, line, api.ErrSessionLine)
	for _, behind := range []string{"free z 0\n", "\n\n", "# nothing\n", "show\nwhat\n", "proofs\nminimise\nbasis =\n"} {
		wantRun(t, strings.TrimSuffix(script, "\n")+"\n"+behind, told, line, api.ErrSessionLine)
	}
}

func wantRun(t *testing.T, script, told string, line int, e api.Errno) {
	t.Helper()
	if got, n, no := session.Run(script); got != told || n != line || no != e {
		t.Errorf("%q:\n%q, %d, %d; want\n%q, %d, %d", short(script), short(got), n, no, short(told), line, e)
	}
}

// kept are lines that keep terms by the declared symbols, and what these and the declaring lines tell.
func kept(l ...string) (string, string) {
	script, told := declared, oks
	for i, line := range l {
		script += "term " + line + "\n"
		told += "term " + strconv.Itoa(i) + "\n"
	}
	return script, told
}

// number is what the document says of one, as an expression.
const number = `(?:0|-?[1-9][0-9]{0,5})`

// forms are the table's rows, as expressions of whole lines.
var forms = map[string]*regexp.Regexp{}

func init() {
	for name, form := range map[string]string{
		"free": ` ([^ ]+) (N)`, "ac": ` ([^ ]+)`, "acu": ` ([^ ]+) ([^ ]+)`, "term": `(?: (.*))?`,
		"show": ` (N)`, "canon": ` (N)`, "size": ` (N)`, "vars": ` (N)`, "equal": ` (N) (N)`, "way": ` (N) (N)`, "unify": ` (N) (N)`, "match": ` (N) (N)`,
		"minimise": ``, "proofs": ``, "apply": ` (N) (N)`, "instance": ` (N) (N)`, "basis": `((?: N)*) =((?: N)*)`,
	} {
		forms[name] = regexp.MustCompile(`(?s)^` + name + strings.ReplaceAll(form, "N", number) + `$`)
	}
}

// reading is the chapter's words, said a second time: a script played line by line, each told as the table says it.
type reading struct {
	s     api.Signature
	terms []api.Term
	list  [][]api.Bind
	vars  []string
	asked bool
	l, r  api.Term
}

// again is what the chapter's words say of a script.
func again(script string) (string, int, api.Errno) {
	all := strings.Split(script, "\n")
	if all[len(all)-1] == "" {
		all = all[:len(all)-1]
	}
	if len(script) > 20000 || len(all) > 200 {
		return "", 0, 241
	}
	x, told := &reading{}, ""
	for i, line := range all {
		if line == "" || line[0] == '#' {
			continue
		}
		first, _, _ := strings.Cut(line, " ")
		if forms[first] == nil || !forms[first].MatchString(line) {
			return told, i + 1, 242
		}
		told += lines(x.line(first, forms[first].FindStringSubmatch(line)[1:])...)
	}
	return told, 0, 0
}

func showError(e api.Errno) []string { return []string{"error " + strconv.Itoa(int(e))} }

func count(word string, n int) string { return word + " " + strconv.Itoa(n) }

func (x *reading) line(first string, words []string) []string {
	switch first {
	case "free", "ac", "acu":
		return x.symbol(first, words)
	case "term":
		return x.term(words[0])
	case "minimise":
		l, e := minimise.Minimise(x.s, x.vars, x.list)
		if e == 0 {
			x.list = l
		}
		return x.told(e)
	case "proofs":
		return x.proofs()
	case "basis":
		return basis(words[0], words[1])
	case "apply", "instance":
		return x.ofList(first, words)
	}
	return x.ofTerms(first, words)
}

func (x *reading) symbol(first string, words []string) []string {
	y := api.Symbol{Name: words[0], Kind: map[string]api.Kind{"free": 1, "ac": 2, "acu": 3}[first], Arity: 2}
	if first == "free" {
		y.Arity, _ = strconv.Atoi(words[1])
	}
	if first == "acu" {
		y.Unit = words[1]
	}
	all := append(slices.Clone(x.s), y)
	if e, _ := sig.Check(all); e != 0 {
		return showError(e)
	}
	x.s = all
	return []string{"ok"}
}

func (x *reading) term(line string) []string {
	if len(x.terms) >= 20 {
		return showError(2)
	}
	t, e, at := text.Term(x.s, line)
	if e != 0 {
		return []string{showError(e)[0] + " at " + strconv.Itoa(at)}
	}
	x.terms = append(x.terms, t)
	return []string{count("term", len(x.terms)-1)}
}

func (x *reading) told(e api.Errno) []string {
	if e != 0 {
		return showError(e)
	}
	var l []string
	for i, b := range x.list {
		line := text.ShowBinds(x.s, b)
		if len(b) == 0 {
			line = "-"
		}
		l = append(l, strconv.Itoa(i)+": "+line)
	}
	return append(l, count("end", len(x.list)))
}

func (x *reading) proofs() []string {
	if !x.asked {
		return showError(1)
	}
	for _, b := range x.list {
		if p, e := proof.Make(x.s, x.l, x.r, b); e != 0 {
			return showError(e)
		} else if e, _ := proof.Check(x.s, x.l, x.r, p); e != 0 {
			return []string{"a proof that does not hold"}
		}
	}
	return []string{count("holds", len(x.list))}
}

func basis(left, right string) []string {
	var sides [2][]int
	for i, side := range []string{left, right} {
		for _, word := range strings.Fields(side) {
			n, _ := strconv.Atoi(word)
			sides[i] = append(sides[i], n)
		}
	}
	l, e := linsolve.Basis(sides[0], sides[1])
	if e != 0 {
		return showError(e)
	}
	var told []string
	for _, v := range l {
		line := ""
		for _, n := range v {
			line += " " + strconv.Itoa(n)
		}
		told = append(told, line[1:])
	}
	return append(told, count("end", len(l)))
}

func yesNo(is bool) []string { return []string{map[bool]string{true: "yes", false: "no"}[is]} }

// at: is there something of this number in a list of so many?
func at(word string, many int) (int, bool) {
	n, _ := strconv.Atoi(word)
	return n, 0 <= n && n < many
}

func (x *reading) ofList(first string, words []string) []string {
	i, ok := at(words[0], len(x.list))
	j, too := at(words[1], map[string]int{"apply": len(x.terms), "instance": len(x.list)}[first])
	if !ok || !too {
		return showError(1)
	}
	if first == "apply" {
		t, e := subst.Apply(x.s, x.list[i], x.terms[j])
		if e != 0 {
			return showError(e)
		}
		return []string{text.Show(x.s, t)}
	}
	_, is, e := instance.Is(x.s, x.vars, x.list[i], x.list[j])
	if e != 0 {
		return showError(e)
	}
	return yesNo(is)
}

func (x *reading) ofTerms(first string, words []string) []string {
	var l []api.Term
	for _, word := range words {
		n, ok := at(word, len(x.terms))
		if !ok {
			return showError(1)
		}
		l = append(l, x.terms[n])
	}
	switch first {
	case "show":
		return []string{text.Show(x.s, l[0])}
	case "canon":
		return []string{text.Show(x.s, canon.Canon(x.s, l[0]))}
	case "size":
		return []string{strconv.Itoa(terms.Size(l[0]))}
	case "vars":
		if names := terms.Vars(l[0]); len(names) > 0 {
			return []string{strings.Join(names, " ")}
		}
		return []string{"-"}
	case "equal":
		return yesNo(canon.Equal(x.s, l[0], l[1]))
	case "way":
		_, is := derive.Way(x.s, l[0], l[1])
		return yesNo(is)
	}
	return x.answers(first, l[0], l[1])
}

func (x *reading) answers(first string, l, r api.Term) []string {
	x.l, x.r, x.asked = l, r, true
	x.vars = terms.Vars(api.Term{Sym: 0, Args: []api.Term{l, r}})
	var e api.Errno
	if first == "unify" {
		x.list, e = unify.Unify(x.s, l, r)
	} else {
		x.list, e = match.All(x.s, l, r)
	}
	if e != 0 {
		x.list = nil
	}
	return x.told(e)
}
