package agenda_test

import (
	"errors"
	"math"
	"runtime"
	"slices"
	"sync"
	"testing"
	"weak"

	"amalgam/agenda"
	"amalgam/api"
)

// keeps puts some things of a type in and takes them out by each call; the zero value of the type is among them.
func keeps[T any](t *testing.T, same func(x, y T) bool, things ...T) {
	t.Helper()
	var zero T
	a := newAgenda[T](t, len(things)+1)
	none := func(what string, x T, n int, ok bool) {
		t.Helper()
		if !same(x, zero) || n != 0 || ok {
			t.Errorf("%s of nothing: %v, %d, %v", what, x, n, ok)
		}
	}
	x, n, ok := a.Peek()
	none("Peek", x, n, ok)
	things = append(slices.Clone(things), zero)
	for i, x := range things {
		if n, e := a.Push(x, -i); n != i+1 || e != api.OK {
			t.Errorf("Push of %v: %d, %v", x, n, e)
		}
	}
	if n, e := a.Push(zero, 0); n != 0 || e != api.ErrAgendaFull {
		t.Errorf("Push into a full one: %d, %v", n, e)
	}
	told := 0
	for ticket, x := range a.All() {
		if told++; ticket != len(things)-told+1 || !same(x, things[ticket-1]) {
			t.Errorf("All: %d, %v", ticket, x)
		}
	}
	for i := len(things) - 1; i >= 0; i-- {
		if x, n, ok := a.Peek(); !same(x, things[i]) || n != i+1 || !ok {
			t.Errorf("Peek: %v, %d, %v; want %v", x, n, ok, things[i])
		}
		if x, n, ok := a.Pop(); !same(x, things[i]) || n != i+1 || !ok {
			t.Errorf("Pop: %v, %d, %v; want %v", x, n, ok, things[i])
		}
	}
	x, n, ok = a.Pop()
	none("Pop", x, n, ok)
}

func equal[T comparable](x, y T) bool { return x == y }

func TestThingsOfSeveralTypes(t *testing.T) {
	keeps(t, equal, "a", "", "a")
	keeps(t, equal, 0, -1, math.MinInt)
	keeps(t, equal, true, false)
	keeps(t, equal, struct{}{}, struct{}{})
	keeps(t, equal, [0]int{})
	keeps(t, equal, [3]string{"a"}, [3]string{})
	keeps(t, equal, api.Symbol{Name: "a"}, api.Symbol{})
	keeps(t, equal, new(int), nil, new(int))
	keeps[error](t, equal, errors.New("e"), nil, api.ErrArg)
	keeps[any](t, equal, 1, nil, "a", (*int)(nil), struct{}{}, &agenda.Agenda[any]{})
	keeps(t, equal, make(chan int), nil)
	keeps(t, equal, newAgenda[string](t, 1), nil)
	keeps(t, func(x, y float64) bool { return math.Float64bits(x) == math.Float64bits(y) }, math.NaN(), math.Inf(-1), math.Copysign(0, -1))
	keeps(t, func(x, y []int) bool { return slices.Equal(x, y) && (x == nil) == (y == nil) && cap(x) == cap(y) }, []int{1, 2}, []int{}, nil, make([]int, 1, 5))
	keeps(t, func(x, y map[string]int) bool { return len(x) == len(y) && (x == nil) == (y == nil) }, map[string]int{"a": 1}, nil, map[string]int{})
	keeps(t, func(x, y func() int) bool { return (x == nil) == (y == nil) && (x == nil || x() == y()) }, func() int { return 1 }, nil, func() int { return 2 })
}

// P3: what is handed in stays as it was, its spare room too, whatever is done with the agenda.
func TestThingsStay(t *testing.T) {
	a := newAgenda[[]int](t, 8)
	backing := []int{1, 2, 3, 4, 5, 6, 7, 8}
	was := slices.Clone(backing)
	for i := range 8 {
		a.Push(backing[:i], 8-i)
	}
	a.Push(backing, 0)
	for i := range 8 {
		a.Weigh(i, i%3)
	}
	for range a.All() {
	}
	a.Drop(3)
	for range 9 {
		a.Pop()
	}
	if !slices.Equal(backing, was) {
		t.Errorf("became %v", backing)
	}
}

// P3: two agendas side by side know nothing of one another, their tickets neither.
func TestSideBySide(t *testing.T) {
	m := newMaker(6)
	l := []both[int]{newBoth[int](t, 1), newBoth[int](t, 5), newBoth[int](t, 30)}
	for range 4000 {
		p := l[m.Intn(len(l))]
		switch x, weight, ticket := m.Int(), m.Intn(5), m.Intn(p.b.last+2); m.Intn(5) {
		case 0, 1:
			p.push(x, weight)
		case 2:
			p.pop()
		case 3:
			p.drop(ticket)
		case 4:
			p.weigh(ticket, weight)
		}
	}
	for _, p := range l {
		p.empty()
	}
}

// P3: agendas of their own, each in a goroutine of its own; one that is only looked at, by all of them.
func TestNothingIsShared(t *testing.T) {
	looked := ofTexts(t, 3, 1, 2).a
	var wait sync.WaitGroup
	for i := range 8 {
		wait.Go(func() {
			a, _ := agenda.New[int](50)
			for j := range 50 {
				a.Push(j, (j+i)*7%11)
				if !slices.Equal(tickets(looked), []int{2, 3, 1}) || tell(looked.Peek()) != (told[string]{"b", 2, true}) || looked.Len() != 3 {
					t.Error("what is only looked at has changed")
				}
			}
			last := -1
			for range 50 {
				x, _, ok := a.Pop()
				weight := (x + i) * 7 % 11
				if !ok || weight < last {
					t.Errorf("%d behind %d, %v", weight, last, ok)
				}
				last = weight
			}
		})
	}
	wait.Wait()
}

type great [1024]byte

// A thing that is gone is not kept: nobody else has it, and so its memory is free.
func TestWhatIsGoneIsNotKept(t *testing.T) {
	a := newAgenda[*great](t, 10)
	put := func(weight int) weak.Pointer[great] {
		x := new(great)
		a.Push(x, weight)
		return weak.Make(x)
	}
	var gone, in []weak.Pointer[great]
	gone = append(gone, put(1), put(2))
	in = append(in, put(5))
	gone = append(gone, put(7))
	in = append(in, put(6))
	gone = append(gone, put(9))
	a.Pop()
	a.Pop()
	a.Drop(4)
	for range a.All() {
	}
	a.Drop(6)
	runtime.GC()
	for i, x := range gone {
		if x.Value() != nil {
			t.Errorf("thing %d that is gone is kept", i)
		}
	}
	for i, x := range in {
		if x.Value() == nil {
			t.Errorf("thing %d that is in is not kept", i)
		}
	}
	runtime.KeepAlive(a)
}

// P1: no call panics, and each ends, at all numbers.
func TestStrangeNumbers(t *testing.T) {
	for _, most := range strange() {
		a, e := agenda.New[int](most)
		if (a == nil) != (e != api.OK) || (e == api.OK) != (most >= 1 && most <= 65536) {
			t.Fatalf("New of %d: %v", most, e)
		}
		if a == nil {
			continue
		}
		p := both[int]{t, a, &book[int]{most: most}}
		for i, weight := range strange() {
			for _, ticket := range strange() {
				p.weigh(ticket, weight)
			}
			p.push(i, weight)
			p.drop(weight)
		}
		p.empty()
	}
}
