package session_test

import (
	"strconv"
	"strings"
	"testing"

	"amalgam/api"
	"amalgam/session"
)

// sum is a sum of so many of each of some terms.
func sum(many int, each string) string {
	return "plus(" + strings.TrimSuffix(strings.Repeat(each+",", many), ",") + ")"
}

// What unify and match tell: the list, with a dash for one that binds nothing; or an error.
func TestAnswers(t *testing.T) {
	for _, x := range []struct{ row, l, r, told string }{
		{"unify", "a", "a", "0: -\nend 1\n"},
		{"unify", "a", "b", "end 0\n"},
		{"unify", "X", "f(X,a)", "end 0\n"},
		{"unify", "X", "Y", "0: Y -> X\nend 1\n"},
		{"unify", "Y", "X", "0: Y -> X\nend 1\n"},
		{"unify", "times(X,a)", "times(Y,Y)", "0: X -> a, Y -> a\n1: X -> times(_1,_1,a), Y -> times(_1,a)\nend 2\n"},
		{"unify", "plus(X,a)", "plus(b,Y)", "0: X -> b, Y -> a\n1: X -> plus(_1,b), Y -> plus(_1,a)\nend 2\n"},
		{"unify", "times(X,Y)", "one", "0: X -> one, Y -> one\nend 1\n"},
		{"unify", "plus(A,B,C,D,E,F)", "plus(G,H)", "error 2\n"},
		{"unify", sum(7, "X"), "plus(Y,Z)", "error 2\n"},
		{"unify", "_1", "a", "error 181\n"},
		{"unify", "a", "_1", "error 181\n"},
		{"unify", "plus(A,B,C,D,E,_9)", "plus(G,H)", "error 181\n"},
		{"match", "a", "a", "0: -\nend 1\n"},
		{"match", "a", "b", "end 0\n"},
		{"match", "X", "a", "0: X -> a\nend 1\n"},
		{"match", "a", "X", "end 0\n"},
		{"match", "X", "f(X,a)", "end 0\n"},
		{"match", "plus(X,Z)", "plus(a,Z)", "0: X -> a\nend 1\n"},
		{"match", "f(X,plus(X,Y))", "f(a,plus(a,one))", "0: X -> a, Y -> one\nend 1\n"},
		{"match", "times(X,Y)", "a", "0: X -> a, Y -> one\n1: X -> one, Y -> a\nend 2\n"},
		{"match", "f(_1,Y)", "f(a,_2)", "0: Y -> _2, _1 -> a\nend 1\n"},
		{"match", "plus(A,B,C,D,E,F)", "plus(a,a,a,a,a,a)", "error 2\n"},
		{"match", "plus(X,Y)", many(4), "error 2\n"},
	} {
		script, told := kept(x.l, x.r)
		want(t, script+x.row+" 0 1\n", told+x.told)
		want(t, script+x.row+" 0 1\n"+x.row+" 0 1\n", told+x.told+x.told)
	}
}

// The first term is the pattern, the second one the subject.
func TestWhichIsThePattern(t *testing.T) {
	script, told := kept("plus(X,Y)", "plus(a,b)")
	want(t, script+"match 0 1\nmatch 1 0\nmatch 0 0\nmatch 1 1\n", told+"0: X -> a, Y -> b\n1: X -> b, Y -> a\nend 2\nend 0\n0: -\nend 1\n0: -\nend 1\n")
}

// What stands behind a list in a script that has each of its kinds: what made it, and what the rows that ask of it tell.
func TestProofsAndBasisBehindAll(t *testing.T) {
	script, told := kept("times(X,Y)", "times(Y,X)", "a", "b", "_1", "plus(A,B,C,D,E,F)", "plus(G,H)")
	for _, x := range []struct{ lines, told, proofs string }{
		{"", "", "error 1\n"},
		{"basis 1 = 1\n", "1 1\nend 1\n", "error 1\n"},
		{"show 0\nequal 0 1\nway 0 1\n", "times(X,Y)\nyes\nyes\n", "error 1\n"},
		{"minimise\n", "end 0\n", "error 1\n"},
		{"unify 0 7\n", "error 1\n", "error 1\n"},
		{"match -1 0\n", "error 1\n", "error 1\n"},
		{"unify 0 1\n", "0: -\n1: Y -> one\n2: X -> one\n3: X -> one, Y -> one\nend 4\n", "holds 4\n"},
		{"unify 0 1\nminimise\n", "0: -\n1: Y -> one\n2: X -> one\n3: X -> one, Y -> one\nend 4\n0: -\nend 1\n", "holds 1\n"},
		{"unify 2 3\n", "end 0\n", "holds 0\n"},
		{"unify 2 3\nminimise\n", "end 0\nend 0\n", "holds 0\n"},
		{"unify 2 2\n", "0: -\nend 1\n", "holds 1\n"},
		{"match 0 2\n", "0: X -> a, Y -> one\n1: X -> one, Y -> a\nend 2\n", "holds 2\n"},
		{"match 0 2\nminimise\n", "0: X -> a, Y -> one\n1: X -> one, Y -> a\nend 2\n0: X -> a, Y -> one\n1: X -> one, Y -> a\nend 2\n", "holds 2\n"},
		{"match 2 3\n", "end 0\n", "holds 0\n"},
		// The list is none with an error; it came from two terms all the same.
		{"unify 4 2\n", "error 181\n", "holds 0\n"},
		{"unify 5 6\n", "error 2\n", "holds 0\n"},
		{"match 0 2\nunify 5 6\n", "0: X -> a, Y -> one\n1: X -> one, Y -> a\nend 2\nerror 2\n", "holds 0\n"},
		{"unify 5 6\nminimise\n", "error 2\nend 0\n", "holds 0\n"},
		{"unify 0 1\nmatch 5 5\nmatch 0 2\n", "0: -\n1: Y -> one\n2: X -> one\n3: X -> one, Y -> one\nend 4\n0: -\nend 1\n0: X -> a, Y -> one\n1: X -> one, Y -> a\nend 2\n", "holds 2\n"},
		// Where there is no such term nothing is done.
		{"unify 2 2\nunify 2 7\n", "0: -\nend 1\nerror 1\n", "holds 1\n"},
	} {
		want(t, script+x.lines+"proofs\n", told+x.told+x.proofs)
		want(t, script+x.lines+"proofs\nbasis 1 1 = 2\nproofs\nbasis 7 = 1\nproofs\n", told+x.told+x.proofs+"0 2 1\n1 1 1\n2 0 1\nend 3\n"+x.proofs+"error 92\n"+x.proofs)
	}
}

// The list is none with an error, so it has no members.
func TestNoMembersBehindAnError(t *testing.T) {
	script, told := kept("plus(X,a)", "plus(Y,a)", "_1", "plus(A,B,C,D,E,F)", "plus(b,b,b,b,b,b)")
	for _, x := range []struct{ line, told string }{{"unify 0 2", "error 181\n"}, {"unify 3 4", "error 2\n"}, {"match 3 4", "error 2\n"}, {"unify 3 0", "error 2\n"}} {
		want(t, script+lines("unify 0 1", "apply 0 1", "instance 0 0", x.line, "apply 0 1", "instance 0 0", "minimise", "unify 0 1", "apply 0 1"),
			told+"0: Y -> X\nend 1\nplus(X,a)\nyes\n"+x.told+"error 1\nerror 1\nend 0\n0: Y -> X\nend 1\nplus(X,a)\n")
	}
}

// many is a sum of six a and six b, so many times one beside: it has 49 times one more than these ways to be dealt out to two, two of which leave one with nothing.
func many(ones int) string {
	return "plus(a,a,a,a,a,a,b,b,b,b,b,b" + strings.Repeat(",one", ones) + ")"
}

// Just as many matchers as may be minimised, and more; a minimise that ends in an error leaves the list as it was.
func TestMinimiseThatFails(t *testing.T) {
	for ones, n := range map[int]int{1: 96, 2: 145, 3: 194} {
		script, told := kept("plus(X,Y)", many(ones), "f(X,Y)")
		list, _, _ := session.Run(script + "match 0 1\n")
		list = strings.TrimPrefix(list, told)
		// The last one gives X the last kind alone.
		if !strings.HasSuffix(list, ",b)\nend "+strconv.Itoa(n)+"\n") {
			t.Fatalf("%s", short(list))
		}
		last := strconv.Itoa(n - 1)
		made := list // Constants are nobody's instances.
		if n > 100 {
			made = "error 2\n"
		}
		size := strconv.Itoa(n)
		want(t, script+lines("match 0 1", "minimise", "proofs", "instance 0 "+last, "instance "+last+" "+last, "apply "+last+" 2", "apply "+size+" 2", "minimise", "proofs"),
			told+list+made+"holds "+size+"\nno\nyes\nf(b,plus(a,a,a,a,a,a"+strings.Repeat(",one", ones)+",b,b,b,b,b))\nerror 1\n"+made+"holds "+size+"\n")
	}
	// So many answers may not be at all: then there is no list.
	script, told := kept("plus(X,Y)", many(4))
	want(t, script+"match 1 1\nmatch 0 1\nminimise\nproofs\n", told+"0: -\nend 1\nerror 2\nend 0\nholds 0\n")
}

// Six variables of one sum are more than instance can deal out to; of a list of one nothing is asked.
func TestMinimiseThatGivesUp(t *testing.T) {
	const great = "plus(Z1,Z2,Z3,Z4,Z5,Z6)"
	script, told := kept("f(A,times(U,Y))", "f("+great+",a)", "A", great, "X")
	list := "0: A -> " + great + ", U -> a, Y -> one\n1: A -> " + great + ", U -> one, Y -> a\nend 2\n"
	want(t, script+"match 0 1\nminimise\nproofs\ninstance 0 1\ninstance 1 0\ninstance 0 0\nminimise\napply 1 0\n",
		told+list+"error 2\nholds 2\nerror 2\nerror 2\nerror 2\nerror 2\nf("+great+",a)\n")
	want(t, script+"match 2 3\ninstance 0 0\nminimise\nproofs\n", told+"0: A -> "+great+"\nend 1\nerror 2\n0: A -> "+great+"\nend 1\nholds 1\n")
	want(t, script+"unify 2 3\ninstance 0 0\nminimise\nunify 4 4\nminimise\ninstance 0 0\n", told+"0: A -> "+great+"\nend 1\nerror 2\n0: A -> "+great+"\nend 1\n0: -\nend 1\n0: -\nend 1\nyes\n")
}

// The list is minimised on the variables of the two terms that it came from, whatever stood in others.
func TestMinimise(t *testing.T) {
	script, told := kept("times(X,Y)", "times(Y,X)", "f(X,f(Y,Z))", "f(U,V)", "plus(X,Y)", "plus(Z,b)")
	full := "0: -\n1: Y -> one\n2: X -> one\n3: X -> one, Y -> one\nend 4\n"
	want(t, script+"unify 0 1\nminimise\nminimise\nunify 0 1\n", told+full+"0: -\nend 1\n0: -\nend 1\n"+full)
	want(t, script+"unify 0 1\ninstance 0 3\ninstance 3 0\ninstance 1 2\ninstance 1 3\nminimise\ninstance 0 0\ninstance 0 1\n", told+full+"yes\nno\nno\nyes\n0: -\nend 1\nyes\nerror 1\n")
	// Behind minimise numbers are those of what is left.
	want(t, script+"unify 0 1\napply 3 2\napply 2 2\nminimise\napply 0 2\napply 1 2\n", told+full+"f(one,f(one,Z))\nf(one,f(Y,Z))\n0: -\nend 1\nf(X,f(Y,Z))\nerror 1\n")
	// The subject's variables are among them, too.
	want(t, script+"match 4 5\nminimise\ninstance 0 1\n", told+"0: X -> Z, Y -> b\n1: X -> b, Y -> Z\nend 2\n0: X -> Z, Y -> b\n1: X -> b, Y -> Z\nend 2\nno\n")
}

// Apply of the list's first number to the term second number; numbers that name no member, or no term; a term that grows too much.
func TestApply(t *testing.T) {
	script, told := kept("f(X,Y)", "f(plus(Z,a),W)", "plus(X,b,Y,a)", "W", "times(one,W)")
	list := "0: X -> plus(Z,a), Y -> W\nend 1\n"
	want(t, script+"match 0 1\napply 0 0\napply 0 1\napply 0 2\napply 0 3\napply 0 4\n", told+list+"f(plus(Z,a),W)\nf(plus(Z,a),W)\nplus(W,Z,a,a,b)\nW\nW\n")
	for _, numbers := range []string{"1 0", "0 5", "1 5", "-1 0", "0 -1", "-1 -1", "2 2", "999999 0", "0 999999", "5 5"} {
		want(t, script+"match 0 1\napply "+numbers+"\nproofs\n", told+list+"error 1\nholds 1\n")
		want(t, script+"apply "+numbers+"\n", told+"error 1\n")
	}
	for _, numbers := range []string{"0 0", "0 1", "1 0", "-1 0", "0 -1", "2 5"} {
		want(t, "apply "+numbers+"\ninstance "+numbers+"\n", "error 1\nerror 1\n")
	}
	just, more := sum(10, "X")[:len(sum(10, "X"))-1]+strings.Repeat(",a", 9)+")", sum(10, "X")[:len(sum(10, "X"))-1]+strings.Repeat(",a", 10)+")"
	script, told = kept("X", sum(38, "a"), just, more)
	want(t, script+"unify 0 1\napply 0 3\napply 0 2\napply 0 3\nproofs\n", told+"0: X -> "+sum(38, "a")+"\nend 1\nerror 73\n"+sum(389, "a")+"\nerror 73\nholds 1\n")
}

// Is the list's second one an instance of the first one, on the variables of both terms? Numbers that name no member.
func TestInstance(t *testing.T) {
	script, told := kept("plus(X,Y)", "plus(b,Z)", "times(X,a)", "times(Y,b)")
	list, _, _ := session.Run(script + "unify 0 1\n")
	want(t, script+"unify 2 3\ninstance 0 1\ninstance 1 0\ninstance 0 0\ninstance 1 1\n", told+"0: X -> b, Y -> a\n1: X -> times(_1,b), Y -> times(_1,a)\nend 2\nno\nyes\nyes\nyes\n")
	n, _ := strconv.Atoi(strings.TrimSuffix(list[strings.LastIndex(list, "end ")+4:], "\n"))
	if n < 2 {
		t.Fatalf("%s", list)
	}
	for _, numbers := range []string{strconv.Itoa(n) + " 0", "0 " + strconv.Itoa(n), "-1 0", "0 -1", "99 99", "999999 -999999"} {
		want(t, script+"unify 0 1\ninstance "+numbers+"\nproofs\n", list+"error 1\nholds "+strconv.Itoa(n)+"\n")
	}
}

// doubled is an equation's two sides, whose answers make them some 127 times as great as what they make of T; the rest says what that is.
func doubled(l, r string) (string, string) {
	return "f(" + l + ",f(A,f(B,f(C,f(D,f(E,F))))))", "f(" + r + ",f(f(B,B),f(f(C,C),f(f(D,D),f(f(E,E),f(f(F,F),f(T,T)))))))"
}

// Proofs tells the first error, of what grows too much; the list stays as it was.
func TestProofsThatGrow(t *testing.T) {
	for _, x := range []struct {
		l, r string
		end  int
		told string
	}{{"T", "b", 1, "holds 1\n"}, {"T", "f(a,b)", 1, "error 73\n"}, {"plus(T,U)", "plus(a,b)", 2, "holds 2\n"}, {"plus(T,a)", "plus(b,U)", 2, "error 73\n"}} {
		l, r := doubled(x.l, x.r)
		script, _ := kept(l, r, "T")
		told, n, e := session.Run(script + "unify 0 1\nproofs\napply 0 2\nproofs\n")
		end := "end " + strconv.Itoa(x.end) + "\n"
		at := strings.Index(told, end)
		if n != 0 || e != api.OK || at < 0 || !strings.HasPrefix(told[at:], end+x.told) || !strings.HasSuffix(told, x.told) {
			t.Errorf("%s and %s: %s, %d, %d", x.l, x.r, short(told), n, e)
		}
	}
}
