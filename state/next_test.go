package state_test

import (
	"slices"
	"testing"

	"amalgam/api"
	"amalgam/state"
)

func wantNext(t *testing.T, what string, x api.State, want int, wantSome bool) {
	t.Helper()
	if at, some := state.Next(x); at != want || some != wantSome {
		t.Errorf("Next of %s: %d, %v; want %d, %v", what, at, some, want, wantSome)
	}
}

func TestNext(t *testing.T) {
	for _, c := range []struct {
		line string
		want int
	}{
		{"X = f(Y,Y); Y = a; f(X,a) = Z", 1},
		{"X = f(Y,Y); f(X,a) = Z", 0},
		{"X = X", 0},
		{"f(X,f(X,f(X,Y))) = plus(a,a,b)", 0},
		{"a = b; X = Y; a = X; Y = a", 0},
		{"g(a) = b; X = g(Y); a = X; Y = a", 2},
		{"f(X,Y) = a; a = f(X,Y); g(X) = g(Y); X = g(g(Y))", 0},
		{"plus(X,Y,Z,a) = plus(a,b); f(X,f(X,Y)) = g(a); g(g(g(X))) = g(a); X = g(X)", 3},
		{"plus(X,Y,Z,a) = X; f(X,f(X,Y)) = g(a); g(g(g(X))) = g(a); X = f(f(X,Y),Y)", 0},
		{"a = plus(X,Y,Z,a,a); f(X,f(X,Y)) = g(a); g(g(g(X))) = g(a); X = f(f(X,Y),Y)", 2},
		{"f(a,a) = f(a,a); X = g(g(g(g(g(a))))); g(g(g(g(a)))) = X; g(g(a)) = g(g(a))", 0},
		{"f(a,a) = f(a,a); X = g(g(g(a))); g(g(g(g(a)))) = X; g(a) = g(g(a))", 1},
	} {
		wantNext(t, c.line, api.State{Equations: equations(t, c.line)}, c.want, true)
		wantNext(t, c.line+" with binds", api.State{Equations: equations(t, c.line), Binds: binds(t, "V -> a"), Fresh: 7}, c.want, true)
	}
}

func TestNextOfNone(t *testing.T) {
	for _, x := range []api.State{{}, {Equations: []api.Equation{}}, {Equations: make([]api.Equation, 0, 3), Fresh: 5}, {Binds: binds(t, "X -> a")}} {
		wantNext(t, told(x), x, 0, false)
	}
}

// nextAgain is the chapter's Next said again.
func nextAgain(x api.State) (int, bool) {
	least, at := 0, -1
	for i, q := range x.Equations {
		if n := nodes(q.L) + nodes(q.R); at < 0 || n < least {
			least, at = n, i
		}
	}
	return max(at, 0), at >= 0
}

func TestNextOfMany(t *testing.T) {
	m := newMaker(320)
	for i := range 4000 {
		s := signatures()[i%4]
		x, _ := m.state(s, 8)
		if i%5 == 0 {
			x = m.any(s)
		}
		for range m.Intn(12) {
			x.Equations = append(x.Equations, eq(m.canonical(s, 1+m.Intn(6)), m.canonical(s, 1+m.Intn(6))))
		}
		want, some := nextAgain(x)
		wantNext(t, told(x), x, want, some)
	}
}

// TestNextGoesOn: taken out one by one, equations come by their weight, those alike in their order.
func TestNextGoesOn(t *testing.T) {
	m := newMaker(330)
	for range 50 {
		x := api.State{}
		for range 30 {
			x.Equations = append(x.Equations, eq(tower(1+m.Intn(3), v("X")), tower(1+m.Intn(3), sy(a))))
		}
		var want []string
		for weight := 2; weight <= 6; weight++ {
			for _, q := range x.Equations {
				if nodes(q.L)+nodes(q.R) == weight {
					want = append(want, told(api.State{Equations: []api.Equation{q}}))
				}
			}
		}
		var got []string
		for range want {
			at, _ := state.Next(x)
			got = append(got, told(api.State{Equations: x.Equations[at : at+1]}))
			x, _ = state.Replace(x, at, nil)
		}
		if !state.Solved(x) || !slices.Equal(got, want) {
			t.Fatalf("%v; want %v", got, want)
		}
	}
}

// TestNextOfMoreThanAnAgenda: a state may have more equations than an agenda has room for.
func TestNextOfMoreThanAnAgenda(t *testing.T) {
	heavy, light := eq(tower(3, v("X")), sy(a)), eq(v("X"), sy(a))
	const room = api.MaxAgenda
	for _, many := range []int{room - 1, room, room + 1, 2*room - 1, 2 * room, 2*room + 1} {
		l := slices.Repeat([]api.Equation{heavy}, many)
		wantNext(t, "many alike", api.State{Equations: l}, 0, true)
		for _, at := range []int{1, room - 2, room - 1, room, room + 1, 2*room - 2, 2*room - 1, 2 * room} {
			if at >= many {
				continue
			}
			l[at] = light
			wantNext(t, "one light one", api.State{Equations: l}, at, true)
			was := l[many-1]
			l[many-1] = light
			wantNext(t, "two light ones", api.State{Equations: l}, at, true)
			l[many-1], l[at] = was, heavy
		}
	}
}
