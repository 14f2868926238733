package session_test

import (
	"strconv"
	"strings"
	"testing"

	"amalgam/api"
	"amalgam/session"
	"amalgam/sig"
	"amalgam/text"
	"amalgam/unify"
)

// wantAgain: a script tells what the chapter's words, said again, tell.
func wantAgain(t *testing.T, script string) (string, int, api.Errno) {
	t.Helper()
	told, line, e := again(script)
	wantRun(t, script, told, line, e)
	return told, line, e
}

// P24.1: any right lines, in any order, held against the chapter's words said again.
func TestP241(t *testing.T) {
	m, seen := newMaker(2410), map[string]int{}
	for range 1500 {
		script := strings.Join(m.script(30), "\n")
		told, line, _ := wantAgain(t, script)
		if line != 0 {
			t.Fatalf("%q: line %d is wrong", short(script), line)
		}
		for _, line := range strings.Split(told, "\n") {
			word, rest, _ := strings.Cut(line, " ")
			if word == "error" {
				word, _, _ = strings.Cut(rest, " ")
			}
			seen[word]++
		}
		if t.Failed() {
			return
		}
	}
	for _, word := range strings.Fields("ok term yes no - 0: 1: 5: end holds 1 2 11 13 14 15 21 33 51 52 53 54 91 92 181") {
		if seen[word] < 5 {
			t.Errorf("%s was told %d times", word, seen[word])
		}
	}
}

// P24.1 of lines that are not right, most of them nearly.
func TestP241OfSpoiltLines(t *testing.T) {
	m := newMaker(2411)
	wrong, right := 0, 0
	for range 4000 {
		l := m.script(6)
		if len(l) == 0 {
			continue
		}
		for range 1 + m.Intn(2) {
			at := m.Intn(len(l))
			l[at] = m.spoilt(l[at])
		}
		if _, line, _ := wantAgain(t, strings.Join(l, "\n")+m.of("", "\n", "\n\n")); line != 0 {
			wrong++
		} else {
			right++
		}
		if t.Failed() {
			return
		}
	}
	if wrong < 500 || right < 500 {
		t.Errorf("%d wrong scripts, %d right ones", wrong, right)
	}
}

// P24.1 of any bytes.
func TestP241OfAnyBytes(t *testing.T) {
	m := newMaker(2412)
	for range 5000 {
		var b strings.Builder
		for range m.Intn(40) {
			b.WriteString(m.of("\n", "\n", " ", " ", "#", "term", "show", "free", "ac", "acu", "basis", "minimise", "proofs", "unify", "=", "0", "1", "-", "a", "X", "\x00", "\xff", "é", "\r\n", string([]byte{byte(m.Intn(256))})))
		}
		wantAgain(t, b.String())
		if t.Failed() {
			return
		}
	}
}

// P24.2: what a script tells begins with what its first lines tell, however many; behind a line that is wrong nothing is done, whatever stands there.
func TestP242(t *testing.T) {
	m := newMaker(2420)
	for range 80 {
		l := m.script(12)
		whole, _, _ := session.Run(lines(l...))
		ahead := ""
		for i := range len(l) + 1 {
			told, line, e := session.Run(lines(l[:i]...))
			if line != 0 || e != api.OK || !strings.HasPrefix(whole, told) || !strings.HasPrefix(told, ahead) {
				t.Fatalf("%q: %q, %d, %d; the whole tells %q", l[:i], short(told), line, e, short(whole))
			}
			ahead = told
			wrong := m.of("what", "show", " ", "show 00", "proofs ", "free a", "basis", "\xff", "minimise 0", "term\t")
			behind := m.of("", "\n"+lines(l[i:]...), "\n"+wrong+"\n"+strings.Repeat("\x00", 5000), "\n"+strings.Repeat("unify 0 1\nminimise\n", 50))
			wantRun(t, lines(l[:i]...)+wrong+behind, told, i+1, api.ErrSessionLine)
		}
		if t.Failed() {
			return
		}
	}
}

// answered is what a script that ends in a list tells of it: its binds, by their numbers.
func answered(t *testing.T, told string) ([]string, bool) {
	t.Helper()
	l := strings.Split(strings.TrimSuffix(told, "\n"), "\n")
	size, ok := strings.CutPrefix(l[len(l)-1], "end ")
	if !ok {
		return nil, false
	}
	n, _ := strconv.Atoi(size)
	var list []string
	for i, line := range l[len(l)-1-n : len(l)-1] {
		b, ok := strings.CutPrefix(line, strconv.Itoa(i)+": ")
		if !ok {
			t.Fatalf("%s: not of number %d", line, i)
		}
		list = append(list, strings.TrimPrefix(b, "-"))
	}
	return list, true
}

// P24.3: behind unify that told a list proofs tells how many there are, or what grows; and each answer, read back, unifies.
func TestP243Proofs(t *testing.T) {
	s := symbols(t)
	m, found := newMaker(2430), 0
	for range 3000 {
		left, right := m.sides()
		script, _ := kept(left, right)
		told, _, _ := session.Run(script + "unify 0 1\n")
		list, ok := answered(t, told)
		if !ok {
			continue
		}
		holds := "holds " + strconv.Itoa(len(list)) + "\n"
		behind, line, e := session.Run(script + "unify 0 1\nproofs\n")
		if behind != told+holds && behind != told+"error 73\n" || line != 0 || e != api.OK {
			t.Fatalf("%s, %s: %q, %d, %d", left, right, short(behind), line, e)
		}
		l, _, _ := text.Term(s, left)
		r, _, _ := text.Term(s, right)
		for _, line := range list {
			b, e, at := text.Binds(s, line)
			if e == api.ErrTextLong || e == api.ErrTermsLong {
				continue
			}
			is, no := unify.Is(s, l, r, b)
			if e != api.OK || no != api.OK || !is {
				t.Fatalf("%s, %s, %s: %v, %d at %d, %d", left, right, line, is, e, at, no)
			}
			found++
		}
	}
	if found < 1000 {
		t.Errorf("only %d answers", found)
	}
}

// symbols are those that are declared.
func symbols(t *testing.T) api.Signature {
	t.Helper()
	s := api.Signature{
		{Name: "a", Kind: api.Free}, {Name: "one", Kind: api.Free}, {Name: "f", Kind: api.Free, Arity: 2},
		{Name: "plus", Kind: api.AC, Arity: 2}, {Name: "times", Kind: api.ACU, Arity: 2, Unit: "one"},
		{Name: "b", Kind: api.Free}, {Name: "g", Kind: api.Free, Arity: 1}, {Name: "zero", Kind: api.Free},
		{Name: "sum", Kind: api.ACU, Arity: 2, Unit: "zero"}, {Name: "both", Kind: api.ACU, Arity: 2, Unit: "one"},
	}
	if e, at := sig.Check(s); e != api.OK {
		t.Fatalf("%d at %d", e, at)
	}
	return s
}

// listed is what a script that ends in a list tells, and that list.
func listed(t *testing.T, script string) (string, []string, bool) {
	t.Helper()
	told, line, e := session.Run(script)
	if line != 0 || e != api.OK {
		t.Fatalf("%q: line %d, %d", short(script), line, e)
	}
	list, ok := answered(t, told)
	return told, list, ok
}

// asked are the rows that ask of each of some members whether each of others is an instance of it.
func asked(of, others []int) string {
	script := ""
	for _, i := range of {
		for _, j := range others {
			if i != j {
				script += "instance " + strconv.Itoa(i) + " " + strconv.Itoa(j) + "\n"
			}
		}
	}
	return script
}

// upTo are the numbers below n, but for so many as a script has lines for.
func upTo(n, most int) []int {
	var l []int
	for i := range min(n, most) {
		l = append(l, i)
	}
	return l
}

// P24.3: behind unify, or match, and minimise no answer is an instance of another one; each that is gone is an instance of one that is left.
func TestP243Minimise(t *testing.T) {
	m, left, gone, proved := newMaker(2431), 0, 0, 0
	for i := range 1500 {
		l, r := m.sides()
		script, _ := kept(l, r)
		if i%5 == 0 {
			script += "match 0 1\n"
		} else {
			script += "unify 0 1\n"
		}
		_, all, ok := listed(t, script)
		told, few, too := listed(t, script+"minimise\n")
		if !ok || !too {
			continue
		}
		both := upTo(len(few), 13)
		behind, line, e := session.Run(script + "minimise\n" + asked(both, both) + "proofs\n")
		if line != 0 || e != api.OK || !strings.HasPrefix(behind, told) || strings.Contains(behind, "yes") {
			t.Fatalf("%s, %s: %q, %d, %d", l, r, short(behind), line, e)
		}
		if strings.HasSuffix(behind, "holds "+strconv.Itoa(len(few))+"\n") {
			proved++
		}
		wantCovered(t, script, all, few)
		left, gone = left+len(few), gone+len(all)-len(few)
		if t.Failed() {
			return
		}
	}
	if left < 500 || gone < 500 || proved < 1200 {
		t.Errorf("%d were left, %d gone, %d lists proved", left, gone, proved)
	}
}

// wantCovered: what is left of a list stands there in its order, and each other member of it is an instance of one of these.
func wantCovered(t *testing.T, script string, all, few []string) {
	t.Helper()
	var stayed, gone []int
	for i, line := range all {
		if len(stayed) < len(few) && line == few[len(stayed)] {
			stayed = append(stayed, i)
		} else {
			gone = append(gone, i)
		}
	}
	if len(stayed) != len(few) {
		t.Errorf("%q: %q are none of %q in their order", short(script), few, all)
	}
	for _, i := range gone {
		if told, _, _ := session.Run(script + asked(stayed[:min(len(stayed), 150)], []int{i})); !strings.Contains(told, "yes\n") {
			t.Errorf("%q: %s is gone", short(script), all[i])
		}
	}
}
