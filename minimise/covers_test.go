package minimise_test

import (
	"testing"

	"amalgam/api"
)

// The first member of which b is an instance, where several would do; none.
func TestCovers(t *testing.T) {
	wantFirst(t, "X Y", "X -> a;X -> Y", "X -> one, Y -> one", 1)
	wantFirst(t, "X", "X -> a;X -> b;X -> Y;;X -> one", "X -> one", 2)
	wantFirst(t, "X", "X -> a;X -> one;X -> Y;;X -> one", "X -> one", 1)
	wantFirst(t, "X", "X -> one;;X -> one", "X -> one", 0)
	wantFirst(t, "X", "X -> a;X -> b;X -> g(Y);X -> one", "X -> one", 3)
	wantFirst(t, "X", "X -> a;X -> b;X -> g(Y);X -> one", "X -> f(a,b)", -1)
	wantFirst(t, "X", "X -> a;X -> b;X -> g(Y);X -> one", "", -1)
	wantFirst(t, "X", "X -> a;X -> b;X -> g(Y);X -> one;X -> _1", "", 4)
	wantFirst(t, "X", ";X -> a", "X -> a", 0)
	// The nearer one does not count: the first does.
	wantFirst(t, "X", "X -> Y;X -> g(Y);X -> g(a)", "X -> g(a)", 0)
	wantFirst(t, "X", "X -> g(b);X -> g(Y);X -> g(a)", "X -> g(a)", 1)
	// One that is an instance of b is none that covers it.
	wantFirst(t, "X", "X -> g(a);X -> g(b)", "X -> g(Y)", -1)
	wantFirst(t, "X", "X -> g(a);X -> g(Z)", "X -> g(Y)", 1)
	wantFirst(t, "X Y", "X -> a;Y -> X", "X -> Y", 1)
}

// An empty list covers nothing.
func TestCoversOfNone(t *testing.T) {
	for _, vars := range []string{"", "X", "X Y _1"} {
		wantFirst(t, vars, "", "", -1)
		wantFirst(t, vars, "", "X -> a", -1)
	}
	wantCovers(t, nil, nil, nil, nil, 0, false, api.OK)
	wantCovers(t, nil, nil, [][]api.Bind{}, []api.Bind{}, 0, false, api.OK)
	wantCovers(t, nil, nil, [][]api.Bind{nil}, nil, 0, true, api.OK)
}

// On the variables that are asked for alone.
func TestCoversOfVars(t *testing.T) {
	wantFirst(t, "", "X -> a;X -> b", "X -> b", 0)
	wantFirst(t, "X", "X -> a;X -> b, Y -> a;X -> b", "X -> b, Y -> b", 1)
	wantFirst(t, "X Y", "X -> a;X -> b, Y -> a;X -> b", "X -> b, Y -> b", 2)
	wantFirst(t, "Y X", "X -> a;X -> b, Y -> a;X -> b", "X -> b, Y -> b", 2)
	wantFirst(t, "Y", "X -> a;X -> b, Y -> a;X -> b", "X -> b, Y -> b", 0)
	wantFirst(t, "Z", "X -> a, Z -> b;Z -> a, _1 -> b", "A -> b, Z -> a, _1 -> a", 1)
	wantFirst(t, "_2 X", "X -> a, _2 -> b;X -> a, _2 -> Y", "X -> a, Y -> b, _2 -> a", 1)
}

// Sums and units.
func TestCoversOfSums(t *testing.T) {
	wantFirst(t, "X", "X -> plus(Y,Y);X -> plus(Y,a);X -> plus(Y,Z)", "X -> plus(a,b)", 1)
	wantFirst(t, "X", "X -> plus(Y,Y);X -> plus(Y,a);X -> plus(Y,Z)", "X -> plus(b,b,one)", 2)
	wantFirst(t, "X", "X -> plus(Y,Y);X -> plus(Y,a);X -> plus(Y,Z)", "X -> plus(b,b,one,one)", 0)
	wantFirst(t, "X", "X -> plus(Y,Y);X -> plus(Y,a);X -> plus(Y,Z)", "X -> b", -1)
	wantFirst(t, "X", "X -> times(Y,Y);X -> times(Y,a);X -> times(Y,Z)", "X -> b", 2)
	wantFirst(t, "X", "X -> times(Y,Y);X -> times(Y,a);X -> times(Y,Z)", "X -> a", 1)
	wantFirst(t, "X", "X -> times(Y,Y);X -> times(Y,a);X -> times(Y,Z)", "X -> one", 0)
}

// P22.1: any lists, against the chapter's words said again.
func TestP221Covers(t *testing.T) {
	failed := 0
	for i, s := range signatures() {
		m := newMaker(int64(2210 + i))
		var none, first, behind int
		for j := range 1500 {
			names := varNames()[:2+j%8]
			l := m.members(s, names, 1+m.Intn(7), 2+j%9)
			b, vars := l[m.Intn(len(l))], m.some(names)
			if m.Intn(4) > 0 {
				// Another one's place, or none.
				l = l[:m.Intn(len(l))]
			}
			at, is, e := coversAgain(s, vars, l, b)
			wantCovers(t, s, vars, l, b, at, is, e)
			if t.Failed() {
				return
			}
			switch {
			case e != api.OK:
				failed++
			case !is:
				none++
			case at == 0:
				first++
			default:
				behind++
			}
		}
		if none < 200 || first < 200 || behind < 100 {
			t.Errorf("signature %d: %d not covered, %d by the first, %d by one behind", i, none, first, behind)
		}
	}
	if failed < 10 {
		t.Errorf("%d failed", failed)
	}
}
