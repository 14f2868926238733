package instance_test

import (
	"slices"
	"testing"

	"amalgam/api"
	"amalgam/canon"
	"amalgam/instance"
)

// The chapter's examples.
func TestExamples(t *testing.T) {
	wantLine(t, "X Y", "X -> plus(Y,Z)", "X -> plus(a,a,one), Y -> a", "Y -> a, Z -> plus(a,one)")
	wantNone(t, "X Y", "X -> a", "X -> one")
	wantLine(t, "X Y", "X -> Y", "X -> Z, Y -> Z", "Y -> Z")
	wantLine(t, "X Y", "X -> times(Y,Z)", "X -> a, Y -> one", "Y -> one, Z -> a")
	wantAlike(t, example(), question{list("X Y"), binds(t, "X -> Y"), binds(t, "Y -> X")}, true, api.OK)
}

// A pattern is what a makes of a variable: its bound term, or itself.
func TestPatterns(t *testing.T) {
	wantLine(t, "X", "", "X -> a", "X -> a")
	wantLine(t, "X", "X -> Y", "X -> a", "Y -> a")
	wantLine(t, "X", "X -> a", "X -> a", "")
	wantLine(t, "X", "X -> f(Y,g(Z))", "X -> f(b,g(f(a,a)))", "Y -> b, Z -> f(a,a)")
	wantNone(t, "X", "X -> f(Y,g(Z))", "X -> f(b,a)")
	wantNone(t, "X", "X -> f(Y,Y)", "X -> f(b,a)")
	wantLine(t, "X", "X -> f(Y,Y)", "X -> f(b,b)", "Y -> b")
	// What a binds of a variable that is not asked for counts nowhere.
	wantLine(t, "X", "X -> Y, Y -> one", "X -> a", "Y -> a")
	wantLine(t, "X", "Y -> a", "Y -> one", "")
	// A variable that stands in several patterns is one and the same in all.
	wantLine(t, "X Y", "X -> Z, Y -> Z", "X -> a, Y -> a", "Z -> a")
	wantNone(t, "X Y", "X -> Z, Y -> Z", "X -> a, Y -> b")
	wantLine(t, "X Y", "X -> g(Y)", "X -> g(b), Y -> b", "Y -> b")
	wantNone(t, "X Y", "X -> g(Y)", "X -> g(b), Y -> a")
	wantNone(t, "X Y", "X -> g(Y)", "X -> g(b)")
	wantLine(t, "X", "X -> g(Y)", "X -> g(b)", "Y -> b")
	wantLine(t, "X Y Z", "X -> f(W,V), Y -> f(V,W)", "X -> f(a,b), Y -> f(b,a), Z -> W", "V -> b, W -> a, Z -> W")
	wantNone(t, "X Y Z", "X -> f(W,V), Y -> f(V,W)", "X -> f(a,b), Y -> f(a,b)")
}

// A subject is what b makes of a variable: its bound term, or itself. Variables in it are constants, whatever a makes of them.
func TestSubjects(t *testing.T) {
	wantLine(t, "X Y", "", "", "")
	wantLine(t, "X Y", "", "X -> Y", "X -> Y")
	wantLine(t, "X Y", "", "X -> Y, Y -> X", "X -> Y, Y -> X")
	wantNone(t, "X Y", "X -> Y", "")
	wantNone(t, "X", "X -> g(Y)", "")
	wantLine(t, "X", "X -> Y", "", "Y -> X")
	wantLine(t, "X Y", "X -> Z, Y -> W", "", "W -> Y, Z -> X")
	wantLine(t, "X", "X -> f(Y,Z)", "X -> f(Z,Y)", "Y -> Z, Z -> Y")
	wantLine(t, "X Y", "X -> f(Y,Z)", "X -> f(X,Y), Y -> X", "Y -> X, Z -> Y")
	wantLine(t, "X", "X -> f(X,Z)", "X -> f(g(X),X)", "X -> g(X), Z -> X")
	wantLine(t, "X", "X -> f(Y,Y)", "X -> f(plus(Y,a),plus(Y,a))", "Y -> plus(Y,a)")
	wantNone(t, "X", "X -> f(Y,Y)", "X -> f(Y,Z)")
	wantLine(t, "X Y", "X -> Y", "X -> g(Z), Y -> g(Z)", "Y -> g(Z)")
	// What b binds of a variable that is not asked for counts nowhere.
	wantLine(t, "X", "X -> Y", "X -> a, Y -> b", "Y -> a")
	wantLine(t, "X", "X -> Y", "X -> Y, Y -> b", "")
}

// A variable that would be bound to itself is left out; the others are there.
func TestBoundToItself(t *testing.T) {
	wantLine(t, "X Y", "X -> f(Y,Z)", "X -> f(Y,a)", "Z -> a")
	wantLine(t, "X Y Z", "", "Y -> a", "Y -> a")
	wantLine(t, "X", "X -> f(Y,f(Z,W))", "X -> f(Y,f(Z,W))", "")
	wantLine(t, "X", "X -> f(Y,f(Z,W))", "X -> f(Z,f(Z,W))", "Y -> Z")
	wantLine(t, "X", "X -> f(_1,f(_2,_3))", "X -> f(_1,f(a,_3))", "_2 -> a")
	wantLine(t, "X", "X -> f(_3,f(_2,_1))", "X -> f(_1,f(_2,_3))", "_1 -> _3, _3 -> _1")
	wantLine(t, "X", "X -> plus(Y,a)", "X -> plus(Y,a)", "")
	wantLine(t, "X", "X -> times(Y,a)", "X -> times(Y,a)", "")
}

// The binds stand by rising old names, whatever the first places are.
func TestOrder(t *testing.T) {
	wantLine(t, "X", "X -> f(Z,f(Y,f(W,f(V,U))))", "X -> f(a,f(b,f(one,f(zero,g(a)))))", "U -> g(a), V -> zero, W -> one, Y -> b, Z -> a")
	wantLine(t, "Z Y X", "", "X -> a, Y -> b, Z -> one", "X -> a, Y -> b, Z -> one")
	wantLine(t, "X", "X -> f(_9,f(_10,f(_1,f(Y,X))))", "X -> f(a,f(b,f(one,f(zero,g(a)))))", "X -> g(a), Y -> zero, _1 -> one, _10 -> b, _9 -> a")
	wantLine(t, "Xa X Y Xb", "X -> Xb, Y -> Xa", "X -> a, Xa -> b, Xb -> a, Y -> b", "Xa -> b, Xb -> a")
}

// Names of the form _1 in a subject, in a pattern, in both: they are as good as all others.
func TestNumberedNames(t *testing.T) {
	wantLine(t, "X", "X -> f(Y,Z)", "X -> f(_1,_2)", "Y -> _1, Z -> _2")
	wantLine(t, "X", "X -> f(Y,Z)", "X -> f(_2,_1)", "Y -> _2, Z -> _1")
	wantLine(t, "X", "X -> f(_1,_2)", "X -> f(a,b)", "_1 -> a, _2 -> b")
	wantLine(t, "X", "X -> f(_2,_1)", "X -> f(a,b)", "_1 -> b, _2 -> a")
	wantLine(t, "X", "X -> f(_2,_1)", "X -> f(_1,_2)", "_1 -> _2, _2 -> _1")
	wantLine(t, "X", "X -> f(_1,_1)", "X -> f(_2,_2)", "_1 -> _2")
	wantLine(t, "X", "X -> f(_2,_2)", "X -> f(_1,_1)", "_2 -> _1")
	wantNone(t, "X", "X -> f(_1,_1)", "X -> f(_1,_2)")
	wantLine(t, "_1 _2", "_1 -> _2", "_1 -> _3, _2 -> _3", "_2 -> _3")
	wantLine(t, "_2 _1", "", "_1 -> _2, _2 -> _1", "_1 -> _2, _2 -> _1")
	wantLine(t, "X Y", "X -> f(_1,Y)", "X -> f(a,_1), Y -> _1", "Y -> _1, _1 -> a")
	wantLine(t, "X", "X -> plus(_1,_2)", "X -> plus(_1,_2)", "_1 -> _2, _2 -> _1") // dealt out as a sum is
	wantLine(t, "X", "X -> plus(_1,a)", "X -> plus(_1,_2,a)", "_1 -> plus(_1,_2)")
}

// The other names go by first places, pattern by pattern, in the order of vars: where units are tried, that tells which answer is the first.
func TestFirstPlaces(t *testing.T) {
	// X, then Y, are times(B,C) and times(A,B): B, C, A are _1, _2, _3, and A is the first to be a unit, C the next.
	const in, out = "X -> times(B,C), Y -> times(A,B)", "X -> a, Y -> a"
	wantLine(t, "X Y", in, out, "A -> one, B -> a, C -> one")
	// The other way round, A, B, C: C is the first, B the next.
	wantLine(t, "Y X", in, out, "A -> a, B -> one, C -> a")
	// Within a pattern from left to right.
	wantLine(t, "X", "X -> times(A,B)", "X -> a", "A -> a, B -> one")
	wantLine(t, "X", "X -> f(B,times(A,B))", "X -> f(one,a)", "A -> a, B -> one")
	wantLine(t, "X", "X -> f(times(B,C),times(A,B))", "X -> f(a,a)", "A -> one, B -> a, C -> one")
	wantLine(t, "X", "X -> f(times(A,B),times(B,C))", "X -> f(a,a)", "A -> a, B -> one, C -> a")
	// The old names count nothing there, but they say how sums are written.
	wantLine(t, "X Y", "X -> times(_2,_3), Y -> times(_1,_2)", out, "_1 -> one, _2 -> a, _3 -> one")
	wantLine(t, "X Y", "X -> times(_1,_3), Y -> times(_1,_2)", out, "_1 -> a, _2 -> one, _3 -> one")
}

// wantTurned asks of times(A,B), which has to become a. A and B are given names behind so many variables; some names are taken, since they stand in the subject of the last pattern. Of two such names the one that stands last is the first to be a unit: turned says that it is A's.
func wantTurned(t *testing.T, ahead int, taken []string, turned bool) {
	t.Helper()
	fillers := sy(a)
	if ahead > 0 {
		fillers = row(names80()[:ahead])
	}
	last := row(append(slices.Clip(taken), "Y"))
	x := question{
		vars: list("W X Z"),
		a:    []api.Bind{bind("W", fillers), bind("X", sy(times, v("A"), v("B")))},
		b:    []api.Bind{bind("W", fillers), bind("X", sy(a)), bind("Z", last)},
	}
	want := binds(t, "A -> a, B -> one")
	if turned {
		want = binds(t, "A -> one, B -> a")
	}
	wantIs(t, example(), x, append(want, bind("Z", last)), true, api.OK)
	wantShown(t, example(), x)
}

// Names that stand in a subject are passed over.
func TestNamesThatArePassedOver(t *testing.T) {
	wantTurned(t, 0, nil, false)
	wantTurned(t, 0, numbered(1, 7), false)                                 // A, B are _8, _9
	wantTurned(t, 0, numbered(1, 8), true)                                  // _9, _10
	wantTurned(t, 0, numbered(1, 9), false)                                 // _10, _11
	wantTurned(t, 0, append(numbered(1, 8), "_10"), true)                   // _9, _11
	wantTurned(t, 0, append(numbered(1, 8), "_11"), true)                   // _9, _10
	wantTurned(t, 0, append(numbered(3, 7), "_10"), false)                  // _1, _2
	wantTurned(t, 0, append(numbered(3, 7), "_1"), true)                    // _2, _10
	wantTurned(t, 0, append(numbered(4, 6), "_1", "_3"), true)              // _2, _10
	wantTurned(t, 0, append(numbered(2, 8), numbered(10, 10)...), false)    // _1, _20
	wantTurned(t, 0, append(numbered(1, 8), numbered(10, 90)...), true)     // _9, _100
	wantTurned(t, 0, numbered(1, 97), false)                                // _98, _99
	wantTurned(t, 0, numbered(1, 98), true)                                 // _99, _100
	wantTurned(t, 0, numbered(1, 99), false)                                // _100, _101
	wantTurned(t, 0, append(numbered(1, 7), "_80", "_99", "X", "A"), false) // _8, _9
}

// More than nine names, some of them passed over.
func TestMoreThanNineNames(t *testing.T) {
	wantTurned(t, 7, nil, false)                 // _8, _9
	wantTurned(t, 8, nil, true)                  // _9, _10
	wantTurned(t, 9, nil, false)                 // _10, _11
	wantTurned(t, 6, list("_3"), false)          // _8, _9
	wantTurned(t, 7, list("_3"), true)           // _9, _10
	wantTurned(t, 8, list("_3"), false)          // _10, _11
	wantTurned(t, 7, list("_9"), true)           // _8, _10
	wantTurned(t, 7, list("_10"), false)         // _8, _9
	wantTurned(t, 8, list("_9"), false)          // _10, _11
	wantTurned(t, 8, list("_10"), true)          // _9, _11
	wantTurned(t, 3, list("_9 _1 _7 _4"), false) // _6, _8
	wantTurned(t, 4, list("_9 _1 _7 _4"), true)  // _8, _10
	wantTurned(t, 5, list("_9 _1 _7 _4"), false) // _10, _11
	wantLine(t, "X", "X -> f(L,f(K,f(J,f(I,f(H,f(G,f(F,f(E,f(D,f(C,f(B,A)))))))))))", "X -> f(a,f(b,f(_1,f(_2,f(_10,f(_11,f(_12,f(g(a),f(A,f(B,f(C,one)))))))))))",
		"A -> one, B -> C, C -> B, D -> A, E -> g(a), F -> _12, G -> _11, H -> _10, I -> _2, J -> _1, K -> b, L -> a")
}

// Names that stand elsewhere are not passed over: in a pattern alone, in what b makes of other variables, among vars.
func TestNamesThatAreNot(t *testing.T) {
	const one, other = "A -> a, B -> one", "A -> one, B -> a"
	// Behind seven names A and B are _8 and _9, and if _9 stands in a subject, _8 and _10.
	const ahead = "W -> f(V1,f(V2,f(V3,f(V4,f(V5,f(V6,V7))))))"
	wantLine(t, "W X", ahead+", X -> times(A,B)", ahead+", X -> a", one)
	wantLine(t, "W X Z", ahead+", X -> times(A,B)", ahead+", X -> a, Z -> _9", other+", Z -> _9")
	wantLine(t, "W X", ahead+", X -> times(A,B)", ahead+", X -> a, Z -> _9", one)
	wantLine(t, "W X Z", ahead+", X -> times(A,B), Z -> _9", ahead+", X -> a, Z -> b", one+", _9 -> b")
	wantLine(t, "W X _9", ahead+", X -> times(A,B)", ahead+", X -> a, _9 -> b", one+", _9 -> b")
	wantLine(t, "W X _9", ahead+", X -> times(A,B), _9 -> b", ahead+", X -> a, _9 -> b", one)
	wantLine(t, "W X _9", ahead+", X -> times(A,B)", ahead+", X -> a", other) // b makes _9 of _9
	wantLine(t, "W X", "W -> f(_9,f(V2,f(V3,f(V4,f(V5,f(V6,V7)))))), X -> times(A,B)", "W -> f(a,f(V2,f(V3,f(V4,f(V5,f(V6,V7)))))), X -> a", one+", _9 -> a")
	wantLine(t, "W X", "W -> f(_9,f(V2,f(V3,f(V4,f(V5,f(V6,V7)))))), X -> times(A,B)", "W -> f(_9,f(V2,f(V3,f(V4,f(V5,f(V6,V7)))))), X -> a", other)
}

// Where more than one answer would do, it is the one that First tells.
func TestMoreThanOneAnswer(t *testing.T) {
	wantLine(t, "X", "X -> plus(Y,Z)", "X -> plus(a,a,one)", "Y -> one, Z -> plus(a,a)")
	wantLine(t, "X", "X -> times(Y,Z)", "X -> a", "Y -> a, Z -> one")
	wantLine(t, "X", "X -> times(Y,Z)", "X -> times(a,b)", "Y -> b, Z -> a")
	wantLine(t, "X", "X -> plus(Y,g(Z))", "X -> plus(a,g(a),g(b))", "Y -> plus(a,g(b)), Z -> a")
	wantLine(t, "X Y", "X -> plus(Y,Z)", "X -> plus(a,a,one), Y -> plus(a,one)", "Y -> plus(a,one), Z -> a")
	wantLine(t, "Y X", "X -> plus(Y,Z)", "X -> plus(a,a,one), Y -> plus(a,a)", "Y -> plus(a,a), Z -> one")
	wantNone(t, "X Y", "X -> plus(Y,Z)", "X -> plus(a,a,one), Y -> b")
	wantLine(t, "X", "X -> sum(Y,times(Z,W))", "X -> sum(a,b)", "W -> a, Y -> b, Z -> one")
	wantLine(t, "X", "", "X -> plus(a,a,one)", "X -> plus(a,a,one)")
	// A unit that is there all the same.
	wantLine(t, "X Y", "X -> times(Z,Y)", "X -> Y", "Z -> one")
	wantLine(t, "X Y", "X -> times(Z,a)", "X -> a", "Z -> one")
	wantNone(t, "X Y", "X -> times(Z,Y)", "X -> one")
	wantLine(t, "X", "X -> times(Z,Y)", "X -> one", "Y -> one, Z -> one")
	wantNone(t, "X", "X -> plus(Z,Y)", "X -> one")
}

// P21.1: any questions, of Is and of Alike, against the chapter's words said again.
func TestAgain(t *testing.T) {
	failed := 0
	for i, s := range signatures() {
		m := newMaker(int64(1100 + i))
		var yes, no, several, alike int
		for j := range 3000 {
			x := m.question(s, varNames()[:2+j%8], 3+j%14)
			r, is, e := wantAgain(t, s, x)
			if t.Failed() {
				return
			}
			switch {
			case e != api.OK:
				failed++
			case is:
				yes++
			default:
				no++
			}
			if len(r) > 2 {
				several++
			}
			if is, _ := instance.Alike(s, x.vars, x.a, x.b); is {
				alike++
			}
		}
		if yes < 500 || no < 500 || several < 200 || alike < 100 {
			t.Errorf("signature %d: %d instances, %d with several binds, %d that are none, %d alike", i, yes, several, no, alike)
		}
	}
	if failed < 50 {
		t.Errorf("%d failed", failed)
	}
}

// TestAgainOfManyVariables: more than nine names, some of them passed over, beside a sum that has more than one answer.
func TestAgainOfManyVariables(t *testing.T) {
	s := example()
	m := newMaker(1110)
	var yes, no, turned int
	for range 400 {
		names := numbered(1, 12)
		m.Shuffle(len(names), func(i, j int) { names[i], names[j] = names[j], names[i] })
		ahead := 1 + m.Intn(9)
		x := question{vars: list("X Y Z")}
		x.a = []api.Bind{bind("X", row(names[:ahead])), bind("Y", canon.Canon(s, sy(times, v(names[ahead]), v(names[ahead+1]))))}
		x.b = []api.Bind{bind("X", row(names[12-ahead:])), bind("Y", sy(a)), bind("Z", v(names[m.Intn(12)]))}
		if m.Intn(4) == 0 {
			// This one is not b's first variable, but for luck.
			x.a = append(x.a, bind("Z", v(names[0])))
		}
		r, is, _ := wantAgain(t, s, x)
		if t.Failed() {
			return
		}
		switch first := x.a[1].T.Args[0]; {
		case !is:
			no++
		case with(r, first).Sym == one:
			turned++
		default:
			yes++
		}
	}
	if yes < 50 || no < 50 || turned < 15 {
		t.Errorf("%d instances, %d turned, %d that are none", yes, turned, no)
	}
}
