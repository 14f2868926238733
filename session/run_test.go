package session_test

import (
	"strings"
	"testing"

	"amalgam/session"
)

// The chapter's examples, word by word.
func TestExamples(t *testing.T) {
	want(t, "free a 0\nac plus\nterm plus(X,a)\nterm plus(a,Y)\nunify 0 1\nproofs\napply 0 1\n", `ok
ok
term 0
term 1
0: Y -> X
end 1
holds 1
plus(X,a)
`)
	want(t, "basis 1 1 = 2\n", "0 2 1\n1 1 1\n2 0 1\nend 3\n")
	want(t, "show 0\nterm\nminimise\n", "error 1\nerror 51 at 0\nend 0\n")
	wantWrong(t, "show", "", 1)
	wantWrong(t, "show 00", "", 1)
	wantWrong(t, "show  0", "", 1)
}

// The document's ten examples of the whole, by its own signature.
func TestExamplesOfTheWhole(t *testing.T) {
	const document = "free a 0\nfree one 0\nfree f 2\nac plus\nacu times one\n"
	for _, x := range []struct{ script, told string }{
		{"term plus(a,plus(X,a))\nterm plus(X,a,a)\nequal 0 1\nway 0 1\ncanon 0\ncanon 1\n", "yes\nyes\nplus(X,a,a)\nplus(X,a,a)\n"},
		{"term f(X,a)\nterm f(a,Y)\nunify 0 1\n", "0: X -> a, Y -> a\nend 1\n"},
		{"term plus(X,a)\nterm plus(Y,a)\nunify 0 1\n", "0: Y -> X\nend 1\n"},
		{"term plus(X,a)\nterm plus(Y,one)\nunify 0 1\n", "0: X -> one, Y -> a\n1: X -> plus(_1,one), Y -> plus(_1,a)\nend 2\n"},
		{"term plus(X,a)\nterm a\nunify 0 1\n", "end 0\n"},
		{"term times(X,a)\nterm a\nunify 0 1\n", "0: X -> one\nend 1\n"},
		{"term f(X,X)\nterm f(plus(Y,a),plus(a,one))\nunify 0 1\n", "0: X -> plus(a,one), Y -> one\nend 1\n"},
		{"term a\nterm a\nbasis 1 1 = 2\n", "0 2 1\n1 1 1\n2 0 1\nend 3\n"},
		{"term plus(X,Y)\nterm plus(a,a,one)\nmatch 0 1\n", "0: X -> a, Y -> plus(a,one)\n1: X -> one, Y -> plus(a,a)\n2: X -> plus(a,a), Y -> one\n3: X -> plus(a,one), Y -> a\nend 4\n"},
		{"term times(X,Y)\nterm times(Y,X)\nunify 0 1\nminimise\n", "0: -\n1: Y -> one\n2: X -> one\n3: X -> one, Y -> one\nend 4\n0: -\nend 1\n"},
	} {
		want(t, document+x.script, strings.Repeat("ok\n", 5)+"term 0\nterm 1\n"+x.told)
	}
	told, _, _ := session.Run(document + "term plus(X,Y)\nterm plus(Z,W)\nunify 0 1\nproofs\nminimise\nproofs\n")
	if strings.Count(told, "end 7\n") != 2 || strings.Count(told, "holds 7\n") != 2 {
		t.Errorf("plus(X,Y) and plus(Z,W): %s", told)
	}
}

// What a script has changes line by line: terms are those of the symbols that are there by then, and stay what they are.
func TestAWholeScript(t *testing.T) {
	want(t, `# what is declared
free a 0
term b
term X
free b 0
term b

unify 1 0
match 0 1
minimise
proofs
vars 0
ac plus
term plus(b,X,a)
canon 2
unify 2 2
term plus(Y,a)
unify 2 3
apply 1 3
instance 0 1
instance 1 0
minimise
proofs
acu times a
term times(X,a)
equal 4 0
show 2
unify 4 9
proofs
apply 0 3
unify 4 1
proofs
vars 2
size 2
`, `ok
error 53 at 0
term 0
ok
term 1
0: X -> b
end 1
0: X -> b
end 1
0: X -> b
end 1
holds 1
X
ok
term 2
plus(X,a,b)
0: -
end 1
term 3
0: Y -> plus(X,b)
end 1
error 1
error 1
error 1
0: Y -> plus(X,b)
end 1
holds 1
ok
term 4
yes
plus(b,X,a)
error 1
holds 1
plus(X,a,b)
0: X -> b
end 1
holds 1
X
4
`)
}
