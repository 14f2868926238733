package state_test

import (
	"math"
	"slices"
	"testing"

	"amalgam/api"
	"amalgam/state"
)

func TestReplace(t *testing.T) {
	for _, c := range []struct {
		at         int
		line, want string
	}{
		{0, "", "Y = a; f(X,a) = Z"},
		{1, "", "X = f(Y,Y); f(X,a) = Z"},
		{2, "", "X = f(Y,Y); Y = a"},
		{0, "b = W", "b = W; Y = a; f(X,a) = Z"},
		{1, "b = W", "X = f(Y,Y); b = W; f(X,a) = Z"},
		{2, "b = W", "X = f(Y,Y); Y = a; b = W"},
		{0, "b = W; g(X) = V; X = X", "b = W; g(X) = V; X = X; Y = a; f(X,a) = Z"},
		{1, "b = W; g(X) = V; X = X", "X = f(Y,Y); b = W; g(X) = V; X = X; f(X,a) = Z"},
		{2, "b = W; g(X) = V; X = X", "X = f(Y,Y); Y = a; b = W; g(X) = V; X = X"},
		{1, "Y = a", "X = f(Y,Y); Y = a; f(X,a) = Z"},
		{1, "Y = a; Y = a", "X = f(Y,Y); Y = a; Y = a; f(X,a) = Z"},
	} {
		for _, bound := range []string{"", "U -> f(a,X), V -> plus(W,a)"} {
			for _, fresh := range []int{0, 1, 70} {
				x := chapters(t)
				x.Binds, x.Fresh = binds(t, bound), fresh
				got, e := state.Replace(x, c.at, equations(t, c.line))
				if e != api.OK {
					t.Errorf("Replace at %d with %s: %d", c.at, c.line, e)
				}
				wantState(t, "Replace with "+c.line, got, read(t, c.want, bound, fresh))
			}
		}
	}
}

func TestReplaceOfNoPlace(t *testing.T) {
	l := equations(t, "X = a; Y = b")
	for _, x := range []api.State{{}, {Equations: []api.Equation{}, Fresh: 3}, {Equations: equations(t, "X = a"), Binds: binds(t, "Z -> a"), Fresh: 1}, chapters(t)} {
		many := len(x.Equations)
		for _, at := range []int{-1, -2, many, many + 1, -many - 1, math.MaxInt, math.MinInt} {
			for _, put := range [][]api.Equation{nil, {}, l[:1], l} {
				got, e := state.Replace(x, at, put)
				wantError(t, "Replace of no place", got, e, api.ErrStatePlace)
			}
		}
		for at := range many {
			if _, e := state.Replace(x, at, l); e != api.OK {
				t.Errorf("Replace at %d of %d: %d", at, many, e)
			}
		}
	}
}

// TestReplaceDoesNotReachSpareRoom: there is no equation behind the last one, whatever the list has room for.
func TestReplaceDoesNotReachSpareRoom(t *testing.T) {
	x := chapters(t)
	x.Equations = x.Equations[:1]
	got, e := state.Replace(x, 1, nil)
	wantError(t, "Replace in spare room", got, e, api.ErrStatePlace)
	got, _ = state.Replace(x, 0, equations(t, "a = a; b = b"))
	wantState(t, "Replace with more than there is", got, read(t, "a = a; b = b", "", 0))
	if x.Equations = x.Equations[:3]; told(x) != told(chapters(t)) {
		t.Errorf("spare room is %s", told(x))
	}
}

// TestReplaceLastOne: with none in the place of the only one all is solved.
func TestReplaceLastOne(t *testing.T) {
	got, e := state.Replace(read(t, "X = a", "Y -> b", 4), 0, nil)
	if e != api.OK || !state.Solved(got) {
		t.Errorf("%d, %s", e, told(got))
	}
	wantState(t, "the last one", got, read(t, "", "Y -> b", 4))
}

func TestReplaceOfMany(t *testing.T) {
	m := newMaker(340)
	for i := range 2000 {
		s := signatures()[i%4]
		x, other := m.any(s), m.any(s)
		for at := -1; at <= len(x.Equations); at++ {
			got, e := state.Replace(x, at, other.Equations)
			if at < 0 || at == len(x.Equations) {
				wantError(t, "no place", got, e, api.ErrStatePlace)
				continue
			}
			want := x
			want.Equations = slices.Clone(x.Equations[:at])
			want.Equations = append(want.Equations, other.Equations...)
			want.Equations = append(want.Equations, x.Equations[at+1:]...)
			wantState(t, "any", got, want)
		}
	}
}
