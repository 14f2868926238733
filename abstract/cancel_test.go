package abstract_test

import (
	"strconv"
	"testing"

	"amalgam/abstract"
	"amalgam/api"
	"amalgam/terms"
)

func wantCancelled(t *testing.T, l, r, left, right []api.Unknown) {
	t.Helper()
	x, y := abstract.Cancel(l, r)
	if told(x) != told(left) || told(y) != told(right) {
		t.Errorf("Cancel of %s and %s: %s and %s; want %s and %s", told(l), told(r), told(x), told(y), told(left), told(right))
	}
}

// P12.1
func TestCancel(t *testing.T) {
	for _, c := range []struct{ l, r, left, right string }{
		{"", "", "", ""},
		{"1 X 2 a", "", "1 X 2 a", ""},
		{"", "1 X 2 a", "", "1 X 2 a"},
		{"1 X", "1 X", "", ""},
		{"3 a", "3 a", "", ""},
		{"1 X 2 Y 3 a 4 f(X,X)", "1 X 2 Y 3 a 4 f(X,X)", "", ""},
		{"1 X", "1 Y", "1 X", "1 Y"},
		{"1 Y", "1 X", "1 Y", "1 X"},
		{"2 X 1 a", "1 Y 3 b", "2 X 1 a", "1 Y 3 b"},
		{"1 X 1 b", "1 Y 1 a", "1 X 1 b", "1 Y 1 a"},
		{"5 X", "2 X", "3 X", ""},
		{"2 X", "5 X", "", "3 X"},
		{"2 X 1 a", "1 X 1 Y 2 a", "1 X", "1 Y 1 a"},
		{"1 X 2 Y 3 a", "2 Y", "1 X 3 a", ""},
		{"2 Y", "1 X 2 Y 3 a", "", "1 X 3 a"},
		{"1 X 2 Y 3 a", "3 a", "1 X 2 Y", ""},
		{"3 a", "1 X 2 Y 3 a", "", "1 X 2 Y"},
		{"1 X 2 Y 3 a", "1 X", "2 Y 3 a", ""},
		{"1 A 1 C 1 E 1 G", "1 B 1 D 1 F 1 H", "1 A 1 C 1 E 1 G", "1 B 1 D 1 F 1 H"},
		{"1 A 1 C 1 E 1 G", "1 B 1 C 1 F 1 G", "1 A 1 E", "1 B 1 F"},
		{"1 A 9 B", "1 A 2 B 7 C", "7 B", "7 C"},
		{"1 f(X,Y)", "1 f(Y,X)", "1 f(X,Y)", "1 f(Y,X)"},
		{"2 f(X,times(a,b))", "1 f(X,times(b,a))", "1 f(X,times(a,b))", ""},
		{"1 X", "1 f(X,X)", "1 X", "1 f(X,X)"},
	} {
		wantCancelled(t, unknowns(t, c.l), unknowns(t, c.r), unknowns(t, c.left), unknowns(t, c.right))
	}
}

// TestCancelGreatNumbers: N may be any number from 1 on.
func TestCancelGreatNumbers(t *testing.T) {
	const most = 1<<63 - 1
	x, y := v("X"), sy(a)
	wantCancelled(t, []api.Unknown{unknown(x, most)}, []api.Unknown{unknown(x, 1)}, []api.Unknown{unknown(x, most-1)}, nil)
	wantCancelled(t, []api.Unknown{unknown(x, most)}, []api.Unknown{unknown(x, most)}, nil, nil)
	wantCancelled(t, []api.Unknown{unknown(x, most-1), unknown(y, most)}, []api.Unknown{unknown(x, most)}, []api.Unknown{unknown(y, most)}, []api.Unknown{unknown(x, 1)})
}

// TestCancelLongSides: much longer ones than Pure lets through.
func TestCancelLongSides(t *testing.T) {
	var l, r, left, right []api.Unknown
	for n := range 30000 {
		x := v("X" + strconv.Itoa(100000+n))
		switch n % 3 {
		case 0:
			l, left = append(l, unknown(x, 1)), append(left, unknown(x, 1))
		case 1:
			r, right = append(r, unknown(x, n)), append(right, unknown(x, n))
		default:
			l, r, left = append(l, unknown(x, n+2)), append(r, unknown(x, n)), append(left, unknown(x, 2))
		}
	}
	wantCancelled(t, l, r, left, right)
	wantCancelled(t, r, l, right, left)
	wantCancelled(t, l, l, nil, nil)
	wantCancelled(t, l, nil, l, nil)
}

// smallSides are all sides of a variable or two and an alien or two, each up to three times.
func smallSides() [][]api.Unknown {
	return sides(3, v("X"), v("Y"), sy(a), sy(f, v("X"), sy(a)))
}

func TestCancelOfAllSmallSides(t *testing.T) {
	l := smallSides()
	for _, x := range l {
		wantSide(t, "a small side", x)
		for _, y := range l {
			left, right := pairs(x, y)
			wantCancelled(t, x, y, left, right)
		}
		if t.Failed() {
			return
		}
	}
}

// countOf is how often a term stands in a side.
func countOf(l []api.Unknown, x api.Term) int {
	n := 0
	for _, u := range l {
		if terms.Same(u.T, x) {
			n += u.N
		}
	}
	return n
}

// P12.3: "What Cancel leaves has no term on both sides; what it took away is the same of both."
func TestP123(t *testing.T) {
	all := []api.Term{v("X"), v("Y"), sy(a), sy(f, v("X"), sy(a))}
	l := smallSides()
	met := 0
	for _, x := range l {
		for _, y := range l {
			left, right := abstract.Cancel(x, y)
			wantSide(t, "what is left", left)
			wantSide(t, "what is left", right)
			for _, u := range all {
				if countOf(left, u) > 0 && countOf(right, u) > 0 {
					t.Fatalf("Cancel of %s and %s leaves %s on both sides", told(x), told(y), written(u))
				}
				took := countOf(x, u) - countOf(left, u)
				if took < 0 || took != countOf(y, u)-countOf(right, u) {
					t.Fatalf("Cancel of %s and %s took away %s: %s and %s", told(x), told(y), written(u), told(left), told(right))
				}
				if took > 0 {
					met++
				}
			}
			again, twice := abstract.Cancel(left, right)
			if told(again) != told(left) || told(twice) != told(right) {
				t.Fatalf("Cancel of what it left: %s and %s", told(again), told(twice))
			}
		}
	}
	if met < 10000 {
		t.Errorf("only %d terms were taken away", met)
	}
}
