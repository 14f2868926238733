package session_test

import (
	"strconv"
	"strings"
	"testing"

	"amalgam/api"
	"amalgam/session"
)

// Names declared free, ac and acu, with each error of sig's Check of all of them; one that may not be is not there, and those behind it are counted as if it had not been asked for.
func TestDeclared(t *testing.T) {
	want(t, "free a 0\nfree g 1\nfree f 2\nfree h 3\nfree i 4\nac plus\nacu times a\nacu sum a\n", strings.Repeat("ok\n", 8))
	for _, x := range []struct{ line, told string }{
		{"free A 0", "error 11\n"},
		{"free abcdefghijklm 0", "error 11\n"},
		{"free a 0", "error 11\n"},
		{"free plus 3", "error 11\n"},
		{"ac a", "error 11\n"},
		{"ac plus", "error 11\n"},
		{"ac times", "error 11\n"},
		{"acu f one", "error 11\n"},
		{"acu times one", "error 11\n"},
		{"acu times zero", "error 11\n"},
		{"free c -1", "error 13\n"},
		{"free c 5", "error 13\n"},
		{"free c 6", "error 13\n"},
		{"free c 999999", "error 13\n"},
		{"free c -999999", "error 13\n"},
		{"acu or c", "error 14\n"},
		{"acu or f", "error 14\n"},
		{"acu or g", "error 14\n"},
		{"acu or plus", "error 14\n"},
		{"acu or times", "error 14\n"},
		{"acu or or", "error 14\n"},
		{"acu or A", "error 14\n"},
		{"acu A A", "error 11\n"},
		// A name that may not be comes ahead of a number, and of a unit, that may not be.
		{"free A 5", "error 11\n"},
		{"free a -1", "error 11\n"},
		{"acu a c", "error 11\n"},
	} {
		want(t, declared+x.line+"\n", oks+x.told)
		want(t, declared+lines(x.line, x.line, "free c 0", "acu or c", "term or(X,c)", "canon 0"), oks+x.told+x.told+"ok\nok\nterm 0\nX\n")
	}
	want(t, "acu times one\nfree one 0\nacu times one\nacu times one\n", "error 14\nok\nok\nerror 11\n")
	want(t, "free a 0\nac a\nacu a a\nfree a 0\n", "ok\nerror 11\nerror 11\nerror 11\n")
}

// Sixteen symbols may be; each one more is ErrSigMany, ahead of all that is wrong with it.
func TestManySymbols(t *testing.T) {
	const more = "free c 0\nfree d 1\nac e\nacu h c\nfree i 4\nfree j 3\n"
	all, told := declared+more, oks+strings.Repeat("ok\n", 6)
	want(t, all, told)
	for _, line := range []string{"free k 0", "ac k", "acu k a", "free a 0", "free K 9", "acu k k", "ac plus"} {
		want(t, all+line+"\n"+line+"\n", told+"error 15\nerror 15\n")
	}
	want(t, all+"free k 0\nterm k\nterm h(X,e(c))\n", told+"error 15\nerror 53 at 0\nerror 33 at 0\n")
	// One that was refused is not counted.
	want(t, strings.Replace(all, "ac e\n", "free a 0\n", 1)+"free k 0\nfree l 0\nterm k\nterm l\n", strings.Repeat("ok\n", 12)+"error 11\n"+strings.Repeat("ok\n", 4)+"error 15\nterm 0\nerror 53 at 0\n")
	want(t, all+"term h(X,e(c,j(a,a,a)),c)\ncanon 0\n", told+"term 0\nh(X,e(c,j(a,a,a)))\n")
}

// A term is one of the symbols that are declared by then, as text's Term reads it: its number, or an error and its place.
func TestTerm(t *testing.T) {
	long := func(n int) string { return strings.Repeat("g(", n) + "a" + strings.Repeat(")", n) }
	for _, x := range []struct{ text, told string }{
		{"X", "term 0\n"},
		{"a", "term 0\n"},
		{"f(X,plus(a,X,one,_12))", "term 0\n"},
		{"times(one,times(one,one))", "term 0\n"},
		{long(39), "term 0\n"},
		{"plus(" + strings.Repeat("X,", 38) + "X)", "term 0\n"},
		{"[", "error 21 at 0\n"},
		{"f(X,a]", "error 21 at 5\n"},
		{"abcdefghijklm", "error 22 at 0\n"},
		{"f(a, abcdefghijklm)", "error 22 at 5\n"},
		{"Abcdefghijklm", "error 22 at 0\n"},
		{"f(X", "error 51 at 3\n"},
		{"f(X,  ", "error 51 at 6\n"},
		{"f()", "error 52 at 2\n"},
		{"f(X a)", "error 52 at 4\n"},
		{"(X)", "error 52 at 0\n"},
		{"= X", "error 52 at 0\n"},
		{"c", "error 53 at 0\n"},
		{"f(X,c)", "error 53 at 4\n"},
		{"f(X,a))", "error 54 at 6\n"},
		{"X(a)", "error 54 at 1\n"},
		{"X, Y", "error 54 at 1\n"},
		{strings.Repeat(" ", 799) + "X", "term 0\n"},
		{strings.Repeat(" ", 800) + "X", "error 55 at 0\n"},
		{strings.Repeat("[", 801), "error 55 at 0\n"},
		{"f(X)", "error 33 at 0\n"},
		{"a(X)", "error 33 at 0\n"},
		{"plus(X)", "error 33 at 0\n"},
		{"plus", "error 33 at 0\n"},
		{"g(f(X))", "error 33 at 0\n"},
		{long(40), "error 34 at 0\n"},
		{"plus(" + strings.Repeat("X,", 39) + "X)", "error 34 at 0\n"},
	} {
		want(t, declared+"term "+x.text+"\n", oks+x.told)
		// What could not be read has no number.
		if strings.HasPrefix(x.told, "error") {
			want(t, declared+lines("term Y", "term "+x.text, "show 1", "term Z", "show 1"), oks+"term 0\n"+x.told+"error 1\nterm 1\nZ\n")
		}
	}
	want(t, "term X\nterm a\nfree a 0\nterm a\nterm a(X)\nac a\nterm g(a)\nfree g 1\nterm g(a)\n", "term 0\nerror 53 at 0\nok\nterm 1\nerror 33 at 0\nerror 11\nerror 53 at 0\nok\nterm 2\n")
}

// Twenty terms may be kept; of each one more it is told that there are too many, whatever its text, and it is not kept.
func TestManyTerms(t *testing.T) {
	script, told := declared, oks
	for i := range 20 {
		script += "term plus(V" + strconv.Itoa(i) + ",a)\n"
		told += "term " + strconv.Itoa(i) + "\n"
		want(t, script, told)
	}
	for _, line := range []string{"term X", "term plus(V3,a)", "term", "term ", "term [", "term c", "term f(X)", "term " + strings.Repeat("X", 900)} {
		want(t, script+line+"\n"+line+"\nshow 19\nshow 20\nshow 0\n", told+"error 2\nerror 2\nplus(V19,a)\nerror 1\nplus(V0,a)\n")
	}
	want(t, script+"free c 0\nterm c\nunify 18 19\nterm X\n", told+"ok\nerror 2\n0: V19 -> V18\nend 1\nerror 2\n")
	// Texts that could not be read are not counted.
	want(t, strings.Replace(script, "term plus(V7,a)\n", "term\nterm [\nterm plus(V7,a)\nterm f\n", 1), strings.Replace(told, "term 7\n", "error 51 at 0\nerror 21 at 0\nterm 7\nerror 33 at 0\n", 1))
}

// What is asked of one term, and of two.
func TestOfTerms(t *testing.T) {
	all := []string{"plus(b,plus(a,X))", "plus(X,a,b)", "X", "a", "times(one,times(one,one))", "f(Y,f(X,Y))", "one", "times(X,one)", "f(_10,f(_9,Xa))", "plus(X,X)"}
	script, told := kept(all...)
	for i, x := range []struct{ show, canon, size, vars string }{
		{all[0], "plus(X,a,b)", "5", "X"},
		{all[1], "plus(X,a,b)", "4", "X"},
		{"X", "X", "1", "X"},
		{"a", "a", "1", "-"},
		{all[4], "one", "5", "-"},
		{all[5], all[5], "5", "X Y"},
		{"one", "one", "1", "-"},
		{all[7], "X", "3", "X"},
		{all[8], all[8], "5", "Xa _10 _9"},
		{all[9], all[9], "3", "X"},
	} {
		n := strconv.Itoa(i)
		want(t, script+lines("show "+n, "canon "+n, "size "+n, "vars "+n), told+lines(x.show, x.canon, x.size, x.vars))
	}
	same := []int{0, 0, 1, 2, 3, 4, 3, 1, 5, 6}
	for i := range all {
		for j := range all {
			numbers, is := strconv.Itoa(i)+" "+strconv.Itoa(j), "no\n"
			if same[i] == same[j] {
				is = "yes\n"
			}
			want(t, script+"equal "+numbers+"\nway "+numbers+"\n", told+is+is)
		}
	}
}

// Numbers that name no term: error 1, wherever they stand in the line, and nothing is done.
func TestNoSuchTerm(t *testing.T) {
	for _, first := range []string{"show", "canon", "size", "vars"} {
		for _, n := range []string{"3", "4", "20", "-1", "-3", "999999", "-999999"} {
			want(t, first+" "+n+"\n", "error 1\n")
			want(t, ready+lines(first+" "+n, "minimise", "proofs"), readyTold+"error 1\n0: Y -> X\nend 1\nholds 1\n")
		}
	}
	for _, first := range []string{"equal", "way", "unify", "match"} {
		want(t, first+" 0 0\n", "error 1\n")
		for _, n := range []string{"0 3", "3 0", "3 3", "-1 0", "0 -1", "999999 -999999", "2 20"} {
			want(t, ready+lines(first+" "+n, "minimise", "proofs", "instance 0 0"), readyTold+"error 1\n0: Y -> X\nend 1\nholds 1\nyes\n")
		}
	}
	// The list stays the one that was made ahead, and so do the terms that it came from.
	want(t, declared+"term X\nterm a\nunify 0 1\nunify 0 2\nproofs\nmatch 2 0\nproofs\napply 0 0\nmatch 1 1\nunify 7 7\nproofs\napply 0 0\n",
		oks+"term 0\nterm 1\n0: X -> a\nend 1\nerror 1\nholds 1\nerror 1\nholds 1\na\n0: -\nend 1\nerror 1\nholds 1\nX\n")
}

func TestBasis(t *testing.T) {
	for _, x := range []struct{ line, told string }{
		{"basis 2 1 = 3", "0 3 1\n1 1 1\n3 0 2\nend 3\n"},
		{"basis 1 1 = 1 1", "0 1 0 1\n0 1 1 0\n1 0 0 1\n1 0 1 0\nend 4\n"},
		{"basis 6 = 6", "1 1\nend 1\n"},
		{"basis 6 = 5", "5 6\nend 1\n"},
		{"basis 3 = 2", "2 3\nend 1\n"},
		{"basis =", "end 0\n"},
		{"basis = 1", "end 0\n"},
		{"basis 1 =", "end 0\n"},
		{"basis 1 2 3 4 5 =", "end 0\n"},
		// A side that is too long comes ahead of a number that may not be.
		{"basis 1 1 1 1 1 1 = 1", "error 91\n"},
		{"basis 1 = 1 1 1 1 1 1", "error 91\n"},
		{"basis 7 = 1 1 1 1 1 1", "error 91\n"},
		{"basis 1 1 1 1 1 0 = 7", "error 91\n"},
		{"basis 7 = 1", "error 92\n"},
		{"basis 1 = 7", "error 92\n"},
		{"basis 0 = 1", "error 92\n"},
		{"basis = 0", "error 92\n"},
		{"basis 0 =", "error 92\n"},
		{"basis 1 -1 = 1", "error 92\n"},
		{"basis 1 = 999999", "error 92\n"},
		{"basis 1 = -999999", "error 92\n"},
		{"basis 1 1 1 1 1 = 1 1 1 1 1", "error 2\n"},
		{"basis 1 1 1 1 = 1 1 1 1 1", "error 2\n"},
	} {
		want(t, x.line+"\n", x.told)
		want(t, ready+x.line+"\n"+x.line+"\nproofs\n", readyTold+x.told+x.told+"holds 1\n")
	}
	// Sixteen may be told, each a line of numbers with a blank between.
	told, n, e := session.Run("basis 1 1 1 1 = 1 1 1 1\n")
	if l := strings.Split(told, "\n"); n != 0 || e != api.OK || len(l) != 18 || l[0] != "0 0 0 1 0 0 0 1" || l[15] != "1 0 0 0 1 0 0 0" || l[16] != "end 16" {
		t.Errorf("%s, %d, %d", told, n, e)
	}
	wantRun(t, "basis "+strings.Repeat("1 ", 9000)+"= 1", "error 91\n", 0, api.OK)
	wantRun(t, "basis "+strings.Repeat("1 ", 9000)+"= x", "", 1, api.ErrSessionLine)
	wantRun(t, "basis "+strings.Repeat("= ", 9000)+"=", "", 1, api.ErrSessionLine)
}
