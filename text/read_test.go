package text_test

import (
	"strings"
	"testing"

	"amalgam/api"
	"amalgam/terms"
	"amalgam/text"
)

// fault is a text that is wrong by one of the calls.
type fault struct {
	in string
	e  api.Errno
	at int
}

func wantFaults(t *testing.T, way int, s api.Signature, l []fault) {
	t.Helper()
	for _, c := range l {
		if got := reading(t, way, s, c.in); got != (answer{e: c.e, at: c.at}) {
			t.Errorf("way %d of %q: %v; want %d at %d", way, c.in, got, c.e, c.at)
		}
	}
}

func wantTerm(t *testing.T, s api.Signature, in string, want api.Term) {
	t.Helper()
	if got := reading(t, asTerm, s, in); got != (answer{read: written(want)}) {
		t.Errorf("Term of %q: %v; want %s", in, got, written(want))
	}
}

func wantEquation(t *testing.T, s api.Signature, in string, left, right api.Term) {
	t.Helper()
	if got := reading(t, asEquation, s, in); got != (answer{read: writtenEquation(api.Equation{L: left, R: right})}) {
		t.Errorf("Equation of %q: %v; want %s, %s", in, got, written(left), written(right))
	}
}

func wantBinds(t *testing.T, s api.Signature, in string, want ...api.Bind) {
	t.Helper()
	if got := reading(t, asBinds, s, in); got != (answer{read: writtenBinds(want)}) {
		t.Errorf("Binds of %q: %v; want %s", in, got, writtenBinds(want))
	}
	if l, _, _ := text.Binds(s, in); len(l) != len(want) {
		t.Errorf("Binds of %q: %d", in, len(l))
	}
}

func TestTermOfTheExamples(t *testing.T) {
	s := exampleSignature()
	wantTerm(t, s, "plus( X,a )", sy(plus, v("X"), sy(a)))
	wantFaults(t, asTerm, s, []fault{
		{"f(X", api.ErrTextShort, 3}, {"f(X))", api.ErrTextRest, 4}, {"g", api.ErrTextSymbol, 0},
		{"f()", api.ErrTextWord, 2}, {"f(X)", api.ErrTermsArgs, 0}, {"", api.ErrTextShort, 0},
	})
}

func TestEquationOfTheExamples(t *testing.T) {
	s := exampleSignature()
	wantEquation(t, s, "X = a", v("X"), sy(a))
	wantFaults(t, asEquation, s, []fault{{"X a", api.ErrTextWord, 2}})
}

func TestBindsOfTheExamples(t *testing.T) {
	s := exampleSignature()
	wantBinds(t, s, "X -> a, Y -> f(X,a)", bind("X", sy(a)), bind("Y", sy(f, v("X"), sy(a))))
	wantBinds(t, s, "")
	wantFaults(t, asBinds, s, []fault{{"X -> a Y", api.ErrTextRest, 7}})
}

func TestTerms(t *testing.T) {
	s := exampleSignature()
	for _, c := range []struct {
		in   string
		want api.Term
	}{
		{"X", v("X")},
		{" _17 ", v("_17")},
		{longVar, v(longVar)},
		{longNumber, v(longNumber)},
		{"a", sy(a)},
		{"one", sy(one)},
		{"  a  ", sy(a)},
		{"f(X,a)", sy(f, v("X"), sy(a))},
		{"f(a,X)", sy(f, sy(a), v("X"))},
		{"f ( f ( a , X ) , one )", sy(f, sy(f, sy(a), v("X")), sy(one))},
		{"f(one,f(a,X))", sy(f, sy(one), sy(f, sy(a), v("X")))},
		{"plus(one,X,a,X)", sy(plus, sy(one), v("X"), sy(a), v("X"))},
		{"plus(plus(a,one),plus(X,Y))", sy(plus, sy(plus, sy(a), sy(one)), sy(plus, v("X"), v("Y")))},
		{"times(one,one)", sy(times, sy(one), sy(one))},
	} {
		wantTerm(t, s, c.in, c.want)
	}
	wide := wideSignature()
	wantTerm(t, wide, longName+"(f22)", sy(0, sy(3)))
	wantTerm(t, wide, "f(f2(X,Y,X),f22,X,f22)", sy(1, sy(2, v("X"), v("Y"), v("X")), sy(3), v("X"), sy(3)))
	wantTerm(t, wide, "su(sum(X,f22),X)", sy(5, sy(4, v("X"), sy(3)), v("X")))
	// Of no symbols variables alone are terms.
	wantTerm(t, nil, "X", v("X"))
	wantFaults(t, asTerm, nil, []fault{{"a", api.ErrTextSymbol, 0}})
}

// TestTermFaults has a word that can't stand, a word's error and an end at each place where a word is wanted.
func TestTermFaults(t *testing.T) {
	s := exampleSignature()
	wantFaults(t, asTerm, s, []fault{
		// where a term is wanted, at the beginning
		{"   ", api.ErrTextShort, 3}, {"(", api.ErrTextWord, 0}, {" )", api.ErrTextWord, 1}, {",", api.ErrTextWord, 0},
		{"=", api.ErrTextWord, 0}, {"  -> a", api.ErrTextWord, 2}, {"[", api.ErrWordsByte, 0}, {"  _0", api.ErrWordsByte, 2},
		{"-a", api.ErrWordsByte, 0}, {strings.Repeat("a", 13), api.ErrWordsLong, 0}, {" " + longVar + "3", api.ErrWordsLong, 1},
		{"g(X,a)", api.ErrTextSymbol, 0}, {"  fa", api.ErrTextSymbol, 2},
		// where the first argument is
		{"f(", api.ErrTextShort, 2}, {"f(  ", api.ErrTextShort, 4}, {"f((", api.ErrTextWord, 2}, {"f( )", api.ErrTextWord, 3}, {"a()", api.ErrTextWord, 2},
		{"f(,", api.ErrTextWord, 2}, {"f(=", api.ErrTextWord, 2}, {"f(->", api.ErrTextWord, 2}, {"f(\t", api.ErrWordsByte, 2},
		{"f(g", api.ErrTextSymbol, 2}, {"f( " + longName + "3", api.ErrWordsLong, 3},
		// where another one is
		{"f(X,", api.ErrTextShort, 4}, {"f(X, ", api.ErrTextShort, 5}, {"f(X,(", api.ErrTextWord, 4}, {"f(X,)", api.ErrTextWord, 4},
		{"f(X,,", api.ErrTextWord, 4}, {"f(X, =", api.ErrTextWord, 5}, {"f(X,->", api.ErrTextWord, 4}, {"f(X,.", api.ErrWordsByte, 4},
		{"f(X,g)", api.ErrTextSymbol, 4},
		// behind an argument: a variable, a name, a bracket
		{"f(X", api.ErrTextShort, 3}, {"f(X(", api.ErrTextWord, 3}, {"f(X=", api.ErrTextWord, 3}, {"f(X->", api.ErrTextWord, 3},
		{"f(X Y", api.ErrTextWord, 4}, {"f(X a", api.ErrTextWord, 4}, {"f(X ;", api.ErrWordsByte, 4},
		{"f(a", api.ErrTextShort, 3}, {"f(a =", api.ErrTextWord, 4}, {"f(a->", api.ErrTextWord, 3}, {"f(a X", api.ErrTextWord, 4},
		{"f(a a", api.ErrTextWord, 4}, {"f(a-", api.ErrWordsByte, 3},
		{"f(f(X,a)", api.ErrTextShort, 8}, {"f(f(X,a)(", api.ErrTextWord, 8}, {"f(f(X,a)=", api.ErrTextWord, 8}, {"f(f(X,a)->", api.ErrTextWord, 8},
		{"f(f(X,a)X", api.ErrTextWord, 8}, {"f(f(X,a)a", api.ErrTextWord, 8}, {"f(f(X,a)_", api.ErrWordsByte, 8},
		// deep inside
		{"plus(a,f(X,plus(a,g,X)))", api.ErrTextSymbol, 18}, {"f(a,f(a,f(a,f(a,", api.ErrTextShort, 16}, {"f(f(f(f()", api.ErrTextWord, 8},
	})
}

func TestTermWithAWordBehindIt(t *testing.T) {
	s := exampleSignature()
	var l []fault
	for _, whole := range []string{"X", "f(X,a)", "plus(a,f(X,a))"} {
		for _, sign := range []string{"(", ")", ",", "=", "->"} {
			l = append(l, fault{whole + sign + " ", api.ErrTextRest, len(whole)})
		}
		for _, word := range []string{"(", ")", ",", "=", "->", "X", "a"} {
			l = append(l, fault{whole + " " + word, api.ErrTextRest, len(whole) + 1})
		}
		l = append(l, fault{whole + " ) [", api.ErrTextRest, len(whole) + 1}, fault{whole + "  [", api.ErrWordsByte, len(whole) + 2})
	}
	for _, word := range []string{")", ",", "=", "->", "X", "a"} {
		l = append(l, fault{"a " + word, api.ErrTextRest, 2})
	}
	l = append(l, fault{"a (", api.ErrTextShort, 3}, fault{"X(a)", api.ErrTextRest, 1}, fault{"f(X,a)(X)", api.ErrTextRest, 6})
	wantFaults(t, asTerm, s, l)
}

func TestEquations(t *testing.T) {
	s := exampleSignature()
	for _, in := range []string{"f(X,a)=plus(a,X)", "f(X,a) =plus(a,X)", "f(X,a)= plus(a,X)", "  f ( X , a )   =   plus ( a , X )  "} {
		wantEquation(t, s, in, sy(f, v("X"), sy(a)), sy(plus, sy(a), v("X")))
	}
	wantEquation(t, s, "a=X", sy(a), v("X"))
	wantEquation(t, s, "X=X", v("X"), v("X"))
	wantEquation(t, s, "one=a", sy(one), sy(a))
}

func TestEquationFaults(t *testing.T) {
	s := exampleSignature()
	wantFaults(t, asEquation, s, []fault{
		{"", api.ErrTextShort, 0}, {"  ", api.ErrTextShort, 2}, {"=", api.ErrTextWord, 0}, {"= a", api.ErrTextWord, 0}, {"-> a", api.ErrTextWord, 0},
		{"[", api.ErrWordsByte, 0}, {"g = a", api.ErrTextSymbol, 0}, {"f() = a", api.ErrTextWord, 2},
		// where = is wanted
		{"X", api.ErrTextShort, 1}, {"X ", api.ErrTextShort, 2}, {"a", api.ErrTextShort, 1}, {"f(X,a)", api.ErrTextShort, 6},
		{"X)", api.ErrTextWord, 1}, {"X(", api.ErrTextWord, 1}, {"X,", api.ErrTextWord, 1}, {"X -> a", api.ErrTextWord, 2}, {"X Y", api.ErrTextWord, 2},
		{"a)", api.ErrTextWord, 1}, {"a,", api.ErrTextWord, 1}, {"a -> a", api.ErrTextWord, 2}, {"a a", api.ErrTextWord, 2}, {"a X", api.ErrTextWord, 2},
		{"f(X,a)) = a", api.ErrTextWord, 6}, {"f(X,a)(", api.ErrTextWord, 6}, {"X [", api.ErrWordsByte, 2}, {"a - = a", api.ErrWordsByte, 2},
		{"f(X,a) _0", api.ErrWordsByte, 7}, {"f(X = a", api.ErrTextWord, 4},
		// where the second term is
		{"X =", api.ErrTextShort, 3}, {"X = ", api.ErrTextShort, 4}, {"X ==", api.ErrTextWord, 3}, {"X = )", api.ErrTextWord, 4}, {"X = (", api.ErrTextWord, 4},
		{"X = ,", api.ErrTextWord, 4}, {"X = ->", api.ErrTextWord, 4}, {"X = ?", api.ErrWordsByte, 4}, {"X = g", api.ErrTextSymbol, 4},
		{"X = f(a", api.ErrTextShort, 7}, {"X = f(a,g(", api.ErrTextSymbol, 8}, {"X = f(a=", api.ErrTextWord, 7},
		// behind the whole
		{"X = a)", api.ErrTextRest, 5}, {"X = a =", api.ErrTextRest, 6}, {"X = a = a", api.ErrTextRest, 6}, {"X = a,", api.ErrTextRest, 5},
		{"X = X(", api.ErrTextRest, 5}, {"X = a X", api.ErrTextRest, 6}, {"X = a a", api.ErrTextRest, 6}, {"X = f(X,a) ->", api.ErrTextRest, 11},
		{"X = a ]", api.ErrWordsByte, 6}, {"X = Y " + longName + "z", api.ErrWordsLong, 6},
	})
}

func TestBinds(t *testing.T) {
	s := exampleSignature()
	wantBinds(t, s, "    ")
	wantBinds(t, s, "X -> a", bind("X", sy(a)))
	wantBinds(t, s, "X->a", bind("X", sy(a)))
	for _, in := range []string{"_1->f(X,_1),X->X,Y->one", "_1 ->f(X,_1) ,X-> X, Y->one", "  _1  ->  f ( X , _1 )  ,  X  ->  X  ,  Y  ->  one  "} {
		wantBinds(t, s, in, bind("_1", sy(f, v("X"), v("_1"))), bind("X", v("X")), bind("Y", sy(one)))
	}
	// Whether they are a substitution is not asked: twice the same variable, out of order, bound to itself, to what is not canonical.
	wantBinds(t, s, "X -> a, X -> a", bind("X", sy(a)), bind("X", sy(a)))
	wantBinds(t, s, "X -> a, X -> one", bind("X", sy(a)), bind("X", sy(one)))
	wantBinds(t, s, "Z -> Z, Y -> plus(a,X), X -> times(one,one)", bind("Z", v("Z")), bind("Y", sy(plus, sy(a), v("X"))), bind("X", sy(times, sy(one), sy(one))))
	var many []string
	var want []api.Bind
	for range 100 {
		many, want = append(many, "X -> a"), append(want, bind("X", sy(a)))
	}
	wantBinds(t, s, strings.Join(many, ", "), want...)
}

func TestBindsFaults(t *testing.T) {
	s := exampleSignature()
	wantFaults(t, asBinds, s, []fault{
		// where the first variable is wanted
		{"a", api.ErrTextWord, 0}, {"a -> a", api.ErrTextWord, 0}, {" (", api.ErrTextWord, 1}, {")", api.ErrTextWord, 0}, {",", api.ErrTextWord, 0},
		{"=", api.ErrTextWord, 0}, {"-> a", api.ErrTextWord, 0}, {"[", api.ErrWordsByte, 0}, {"  -", api.ErrWordsByte, 2}, {longVar + "a", api.ErrWordsLong, 0},
		// where -> is
		{"X", api.ErrTextShort, 1}, {"X  ", api.ErrTextShort, 3}, {"X = a", api.ErrTextWord, 2}, {"X a", api.ErrTextWord, 2}, {"X Y", api.ErrTextWord, 2},
		{"X,", api.ErrTextWord, 1}, {"X(", api.ErrTextWord, 1}, {"X)", api.ErrTextWord, 1}, {"X - > a", api.ErrWordsByte, 2}, {"X > a", api.ErrWordsByte, 2},
		// where a term is
		{"X ->", api.ErrTextShort, 4}, {"X -> ", api.ErrTextShort, 5}, {"X -> ,", api.ErrTextWord, 5}, {"X -> (", api.ErrTextWord, 5}, {"X -> )", api.ErrTextWord, 5},
		{"X -> =", api.ErrTextWord, 5}, {"X -> ->", api.ErrTextWord, 5}, {"X -> g", api.ErrTextSymbol, 5}, {"X -> [", api.ErrWordsByte, 5},
		{"X -> f(a,", api.ErrTextShort, 9}, {"X -> f(a,g)", api.ErrTextSymbol, 9}, {"X -> f(->", api.ErrTextWord, 7},
		// behind a term
		{"X -> a)", api.ErrTextRest, 6}, {"X -> a = a", api.ErrTextRest, 7}, {"X -> a -> a", api.ErrTextRest, 7}, {"X -> Y(", api.ErrTextRest, 6},
		{"X -> f(X,a) a", api.ErrTextRest, 12}, {"X -> a a", api.ErrTextRest, 7}, {"X -> a ;", api.ErrWordsByte, 7}, {"X -> a Y -> a", api.ErrTextRest, 7},
		{"X -> a, Y -> a Z", api.ErrTextRest, 15},
		// where another variable is
		{"X -> a,", api.ErrTextShort, 7}, {"X -> a, ", api.ErrTextShort, 8}, {"X -> a, a", api.ErrTextWord, 8}, {"X -> a,,", api.ErrTextWord, 7},
		{"X -> a, ->", api.ErrTextWord, 8}, {"X -> a, (", api.ErrTextWord, 8}, {"X -> a, )", api.ErrTextWord, 8}, {"X -> a, =", api.ErrTextWord, 8},
		{"X -> a, _", api.ErrWordsByte, 8}, {"X -> a, Y", api.ErrTextShort, 9}, {"X -> a, Y, ", api.ErrTextWord, 9}, {"X -> a, Y -> g(", api.ErrTextSymbol, 13},
	})
}

// TestTheFirstShows: of two errors the one that shows first from left to right; what is not looked at does not count.
func TestTheFirstShows(t *testing.T) {
	s := exampleSignature()
	wantFaults(t, asTerm, s, []fault{
		{"g [", api.ErrTextSymbol, 0}, {"g(", api.ErrTextSymbol, 0}, {"g g", api.ErrTextSymbol, 0}, {"f() [", api.ErrTextWord, 2}, {"f(g,)", api.ErrTextSymbol, 2},
		{"f(),g", api.ErrTextWord, 2}, {"f(X) X", api.ErrTextRest, 5}, {"f(X) [", api.ErrWordsByte, 5}, {"f(f(X),g)", api.ErrTextSymbol, 7},
		{"a(X", api.ErrTextShort, 3}, {"X ) [", api.ErrTextRest, 2}, {"f(X,a,a", api.ErrTextShort, 7}, {"[ g", api.ErrWordsByte, 0},
		{"f(X a [", api.ErrTextWord, 4}, {"f(X,) _0", api.ErrTextWord, 4}, {"f [", api.ErrWordsByte, 2}, {"f ( [", api.ErrWordsByte, 4},
	})
	wantFaults(t, asEquation, s, []fault{
		{"f(X) = g", api.ErrTextSymbol, 7}, {"f(X) =", api.ErrTextShort, 6}, {"f(X) a", api.ErrTextWord, 5}, {"f(X) = a a", api.ErrTextRest, 9},
		{"g = [", api.ErrTextSymbol, 0}, {"a g = [", api.ErrTextWord, 2}, {"f(a) [ g", api.ErrWordsByte, 5},
	})
	wantFaults(t, asBinds, s, []fault{
		{"X -> f(X), Y -> g", api.ErrTextSymbol, 16}, {"X -> f(X),", api.ErrTextShort, 10}, {"X -> f(X) a", api.ErrTextRest, 10}, {"X -> g, [", api.ErrTextSymbol, 5},
		{"a -> g", api.ErrTextWord, 0}, {"X a, [", api.ErrTextWord, 2},
	})
}

// TestNamesOutOfPlace: a name is looked up where it may stand; elsewhere it is a word that can't stand there, or one behind the whole, whether or not the signature has it.
func TestNamesOutOfPlace(t *testing.T) {
	s := exampleSignature()
	for _, name := range []string{"a", "g"} {
		wantFaults(t, asTerm, s, []fault{{"X " + name, api.ErrTextRest, 2}, {"f(X " + name, api.ErrTextWord, 4}})
		wantFaults(t, asEquation, s, []fault{{"X " + name, api.ErrTextWord, 2}, {"X = X " + name, api.ErrTextRest, 6}})
		wantFaults(t, asBinds, s, []fault{{name, api.ErrTextWord, 0}, {"X " + name, api.ErrTextWord, 2}, {"X -> X " + name, api.ErrTextRest, 7}, {"X -> X, " + name, api.ErrTextWord, 8}})
	}
}

// chained is a term of n nodes as deep as may be, as a text; wide is one of n nodes, all but one of them beneath one symbol.
func chained(n int) string {
	return strings.Repeat(longName+"(", n-1) + longVar + strings.Repeat(")", n-1)
}

func wide(name, leaf string, n int) string {
	return name + "(" + strings.TrimSuffix(strings.Repeat(leaf+",", n-1), ",") + ")"
}

func TestChecksOfTerms(t *testing.T) {
	s := exampleSignature()
	fits, long := wide("plus", "a", 40), wide("plus", "a", 41)
	wantFaults(t, asTerm, s, []fault{
		{"f", api.ErrTermsArgs, 0}, {" f(X)", api.ErrTermsArgs, 0}, {"f(X,a,a)", api.ErrTermsArgs, 0}, {"a(X)", api.ErrTermsArgs, 0}, {"plus", api.ErrTermsArgs, 0},
		{"plus(X)", api.ErrTermsArgs, 0}, {"times(X)", api.ErrTermsArgs, 0}, {"plus(X,f(a,times(a)))", api.ErrTermsArgs, 0},
		{long, api.ErrTermsLong, 0}, {"f(" + fits + ",a)", api.ErrTermsLong, 0}, {wide("f", "f", 41), api.ErrTermsLong, 0}, {wide("f", "f", 40), api.ErrTermsArgs, 0},
	})
	wantFaults(t, asEquation, s, []fault{
		{"f = a", api.ErrTermsArgs, 0}, {"a = f(X)", api.ErrTermsArgs, 0}, {long + " = a", api.ErrTermsLong, 0}, {"X = " + long, api.ErrTermsLong, 0},
		{"f = " + long, api.ErrTermsArgs, 0}, {long + " = f", api.ErrTermsLong, 0},
	})
	wantFaults(t, asBinds, s, []fault{
		{"X -> f", api.ErrTermsArgs, 0}, {"X -> a, Y -> a(a)", api.ErrTermsArgs, 0}, {"X -> a, Y -> " + long, api.ErrTermsLong, 0},
		{"X -> " + long + ", Y -> f, Z -> a", api.ErrTermsLong, 0}, {"X -> a, Y -> f, Z -> " + long, api.ErrTermsArgs, 0},
	})
	// The limit is each term's own.
	x, _, _ := text.Term(s, fits)
	if terms.Size(x) != 40 {
		t.Fatalf("%d nodes", terms.Size(x))
	}
	wantEquation(t, s, fits+"="+fits, x, x)
	wantBinds(t, s, "X -> "+fits+",Y->"+fits+",X->"+fits, bind("X", x), bind("Y", x), bind("X", x))
}

func TestDeepTexts(t *testing.T) {
	s := wideSignature()
	deep := v(longVar)
	for range 39 {
		deep = sy(0, deep)
	}
	wantTerm(t, s, chained(40), deep)
	wantFaults(t, asTerm, s, []fault{{chained(41), api.ErrTermsLong, 0}})
	s = exampleSignature()
	wantFaults(t, asTerm, s, []fault{
		{strings.Repeat("f(", 400), api.ErrTextShort, 800},
		{strings.Repeat("f(", 266) + "X" + strings.Repeat(")", 266), api.ErrTermsLong, 0},
		{strings.Repeat("f(", 266) + "X" + strings.Repeat(")", 267), api.ErrTextRest, 799},
		{strings.Repeat("f(", 266) + "g" + strings.Repeat(")", 266), api.ErrTextSymbol, 532},
		{strings.Repeat("f(", 266) + "X" + strings.Repeat(")", 265), api.ErrTextShort, 798},
		{strings.Repeat("f(", 399) + "()", api.ErrTextWord, 798},
	})
}

func TestLongTexts(t *testing.T) {
	s := exampleSignature()
	blanks := func(in string, n int) string { return in + strings.Repeat(" ", n-len(in)) }
	wantTerm(t, s, blanks("X", 800), v("X"))
	wantTerm(t, s, strings.Repeat(" ", 799)+"a", sy(a))
	wantEquation(t, s, blanks("X=", 799)+"a", v("X"), sy(a))
	wantBinds(t, s, blanks("X->", 799)+"a", bind("X", sy(a)))
	wantBinds(t, s, blanks("", 800))
	for way := range ways {
		wantFaults(t, way, s, []fault{
			{blanks("X", 801), api.ErrTextLong, 0}, {blanks("X=a", 801), api.ErrTextLong, 0}, {blanks("X->a", 801), api.ErrTextLong, 0}, {blanks("", 801), api.ErrTextLong, 0},
			{blanks("[", 801), api.ErrTextLong, 0}, {blanks(") g", 801), api.ErrTextLong, 0}, {strings.Repeat("X", 801), api.ErrTextLong, 0}, {strings.Repeat("f(", 1<<20), api.ErrTextLong, 0},
			{strings.Repeat("X", 800), api.ErrWordsLong, 0}, {blanks("[", 800), api.ErrWordsByte, 0},
		})
	}
	wantFaults(t, asTerm, s, []fault{{blanks("", 800), api.ErrTextShort, 800}, {blanks("f(X", 800), api.ErrTextShort, 800}, {blanks("X", 799) + ")", api.ErrTextRest, 799}})
	wantFaults(t, asEquation, s, []fault{{blanks("X", 800), api.ErrTextShort, 800}})
	wantFaults(t, asBinds, s, []fault{{blanks("X", 800), api.ErrTextShort, 800}})
	// Bytes are counted, not letters.
	wantFaults(t, asTerm, s, []fault{{strings.Repeat("é", 401), api.ErrTextLong, 0}, {strings.Repeat("é", 400), api.ErrWordsByte, 0}, {"X é", api.ErrWordsByte, 2}})
}
