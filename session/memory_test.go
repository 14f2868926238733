package session_test

import (
	"bytes"
	"strings"
	"sync"
	"testing"
	"unsafe"

	"amalgam/api"
	"amalgam/session"
)

// apart: do two texts share no memory?
func apart(a, b string) bool {
	if len(a) == 0 || len(b) == 0 {
		return true
	}
	first, second := uintptr(unsafe.Pointer(unsafe.StringData(a))), uintptr(unsafe.Pointer(unsafe.StringData(b)))
	return first+uintptr(len(a)) <= second || second+uintptr(len(b)) <= first
}

// P3: a script that is handed in, and what stands around it, stays as it was; what is answered is memory of its own, of each call, and stays as it was when the script's memory is written on.
func TestMemory(t *testing.T) {
	m := newMaker(2440)
	scripts := []string{ready + "proofs\nvars 0\n", "free abcdefghijkl 0\nterm abcdefghijkl\nshow 0\n", "term X\nvars 0\nshow 0\ncanon 0\nunify 0 0\n", "show", "term Y\nshow 0\nwhat", strings.Repeat("#", 20001), strings.Repeat("\n", 201), ""}
	for range 300 {
		scripts = append(scripts, lines(m.script(10)...))
	}
	for _, script := range scripts {
		room := append([]byte("show 0\n"), script...)
		room = append(room, "\nterm X\nshow 0\n"...)
		was := bytes.Clone(room)
		in := unsafe.String(&room[7], len(script))
		one, line, e := session.Run(in)
		two, again, no := session.Run(in)
		if one != two || line != again || e != no {
			t.Fatalf("%q: two answers: %q, %d, %d; %q, %d, %d", short(script), short(one), line, e, short(two), again, no)
		}
		if !bytes.Equal(room, was) {
			t.Fatalf("%q: changed", short(script))
		}
		if !apart(one, two) || !apart(one, unsafe.String(&room[0], len(room))) {
			t.Fatalf("%q: memory is shared", short(script))
		}
		told := strings.Clone(one)
		for i := range room {
			room[i] = '#'
		}
		if one != told || two != told {
			t.Fatalf("%q: %q; was %q", short(script), short(one), short(told))
		}
	}
}

// P3: nothing is kept from one script to the next one: symbols, terms and the list are none at first, each time.
func TestNothingIsKept(t *testing.T) {
	for _, ahead := range []string{ready, ready + "minimise\nproofs\n", "free a 0\nwhat\n", ready + "unify 0 0\nshow"} {
		session.Run(ahead)
		want(t, "show 0\nproofs\nminimise\napply 0 0\ninstance 0 0\nterm a\nterm plus(X,Y)\nfree a 0\nterm a\n", "error 1\nerror 1\nend 0\nerror 1\nerror 1\nerror 53 at 0\nerror 53 at 0\nok\nterm 0\n")
	}
}

// P3: what a script tells does not hang on others at the same time.
func TestAtTheSameTime(t *testing.T) {
	m := newMaker(2441)
	var wait sync.WaitGroup
	for range 20 {
		script := lines(m.script(20)...)
		told, line, e := session.Run(script)
		for range 3 {
			wait.Go(func() {
				for range 5 {
					wantRun(t, script, told, line, e)
				}
			})
		}
	}
	wait.Wait()
}

// P2: beside ErrSessionLong nothing is told, whatever the lines are; beside OK no line.
func TestNothingBesideTooLong(t *testing.T) {
	for _, script := range []string{ready, "what\n", "term X\nshow 0\n"} {
		told, line, e := session.Run(script + strings.Repeat("\n", 200))
		if told != "" || line != 0 || e != api.ErrSessionLong {
			t.Errorf("%q, %d, %d", told, line, e)
		}
		wantRun(t, script+"#"+strings.Repeat("x", 20000), "", 0, api.ErrSessionLong)
	}
	if _, line, e := session.Run(ready); line != 0 || e != api.OK {
		t.Errorf("line %d, %d", line, e)
	}
}

// P1: scripts that ask for all that may be asked for, again and again: they end.
func TestManyGreatLines(t *testing.T) {
	script, told := kept("plus(A,B,C)", "plus(X,Y,Z,W)", "plus(A,B,C,D)", "plus(X,Y,Z,W)", "times(A,B,C)", "times(X,Y,one)")
	for _, line := range []string{"unify 0 1", "unify 2 3", "match 0 1", "unify 4 5", "unify 4 4", "way 0 1"} {
		many := (200 - strings.Count(script, "\n")) / 2
		got, n, e := session.Run(script + strings.Repeat(line+"\nproofs\n", many))
		if n != 0 || e != api.OK || !strings.HasPrefix(got, told) {
			t.Errorf("%s: %q, %d, %d", line, short(got), n, e)
		}
		once, _, _ := again(script + line + "\nproofs\n")
		if got[len(told):] != strings.Repeat(once[len(told):], many) {
			t.Errorf("%s: not alike each time", line)
		}
	}
}
