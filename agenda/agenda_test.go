package agenda_test

import (
	"math"
	"slices"
	"testing"

	"amalgam/agenda"
	"amalgam/api"
)

// G1
func TestNew(t *testing.T) {
	for _, most := range []int{math.MinInt, -65536, -1, 0, 65537, 65538, 1 << 17, math.MaxInt32, math.MaxInt} {
		if a, e := agenda.New[string](most); a != nil || e != api.ErrArg {
			t.Errorf("New of %d: %v, %v", most, a, e)
		}
		if a, e := agenda.New[*texts](most); a != nil || e != api.ErrArg {
			t.Errorf("New of %d, of pointers: %v, %v", most, a, e)
		}
	}
	for _, most := range []int{1, 2, 3, 100, 65535, 65536} {
		p := newBoth[string](t, most)
		p.agree()
		p.pop()
		p.drop(1)
		p.weigh(1, 0)
	}
	if api.MaxAgenda != 65536 {
		t.Errorf("MaxAgenda is %d", api.MaxAgenda)
	}
}

// G1: each time a new one.
func TestNewIsNew(t *testing.T) {
	a, b := newAgenda[string](t, 1), newAgenda[string](t, 1)
	a.Push("a", 1)
	if a == b || a.Len() != 1 || b.Len() != 0 {
		t.Errorf("%d and %d things", a.Len(), b.Len())
	}
}

// G2: just as many as there is room for, and again where something has gone.
func TestPushIntoAFullOne(t *testing.T) {
	for _, most := range []int{1, 2, 3, 7, 64} {
		p := newBoth[int](t, most)
		for i := range most {
			p.push(i, 5)
		}
		for _, weight := range strange() {
			if n, e := p.a.Push(-1, weight); n != 0 || e != api.ErrAgendaFull {
				t.Errorf("Push into a full one of %d: %d, %v", most, n, e)
			}
			p.agree()
		}
		p.pop()
		p.push(100, 9)
		p.push(101, -9)
		p.drop(p.b.last)
		p.push(102, -9)
		p.push(103, 0)
		p.weigh(p.b.last, 9)
		p.push(104, 0)
		p.drop(p.b.last + 1)
		p.push(105, 0)
		p.empty()
		p.push(106, 0)
	}
}

// G1, G2: the greatest one is full at 65536 things; they come out in order, and it may be filled again.
func TestTheGreatest(t *testing.T) {
	a := newAgenda[int](t, 65536)
	weight := func(i int) int { return i * 7919 % 1009 }
	for round := range 2 {
		for i := range 65536 {
			if n, e := a.Push(i, weight(i)); n != round*65536+i+1 || e != api.OK {
				t.Fatalf("Push of %d: %d, %v", i, n, e)
			}
		}
		if n, e := a.Push(0, 0); n != 0 || e != api.ErrAgendaFull || a.Len() != 65536 {
			t.Fatalf("one more: %d, %v; %d things", n, e, a.Len())
		}
		last := -1
		for left := 65536; left > 0; left-- {
			x, n, ok := a.Pop()
			if !ok || n != round*65536+x+1 || a.Len() != left-1 {
				t.Fatalf("Pop: %d, %d, %v; %d things", x, n, ok, a.Len())
			}
			if last >= 0 && (weight(x) < weight(last) || weight(x) == weight(last) && x < last) {
				t.Fatalf("%d comes behind %d", x, last)
			}
			last = x
		}
		if got := tell(a.Pop()); got != (told[int]{}) {
			t.Errorf("of nothing: %v", got)
		}
	}
}

// G4: each thing of the greatest one is found by its ticket.
func TestTheGreatestByTickets(t *testing.T) {
	a := newAgenda[int](t, 65536)
	for i := range 65536 {
		a.Push(i, i%7)
	}
	for i := range 65536 {
		if ticket := i*25173%65536 + 1; !a.Weigh(ticket, -ticket) {
			t.Fatalf("Weigh of %d", ticket)
		}
	}
	for i := range 65535 {
		ticket := i*25173%65536 + 1
		if !a.Drop(ticket) || a.Drop(ticket) || a.Weigh(ticket, 0) || a.Len() != 65535-i {
			t.Fatalf("Drop of %d, %d things", ticket, a.Len())
		}
	}
	ticket := 65535*25173%65536 + 1
	if got := tell(a.Pop()); got != (told[int]{ticket - 1, ticket, true}) {
		t.Errorf("the last one: %v; want ticket %d", got, ticket)
	}
}

// G2: weights alike, below 0, the least and the greatest number.
func TestPushByWeights(t *testing.T) {
	for _, weight := range strange() {
		p := newBoth[int](t, 20)
		for i := range 9 {
			p.push(i, weight)
		}
		wantTickets(t, "weights alike", p.a, 1, 2, 3, 4, 5, 6, 7, 8, 9)
		p.empty()
	}
	least, most := math.MinInt, math.MaxInt
	p := ofTexts(t, most, 0, least, -1, most, least, 1, 0)
	wantTickets(t, "weights far apart", p.a, 3, 6, 4, 2, 8, 7, 1, 5)
	p.empty()
	for _, first := range strange() {
		for _, second := range strange() {
			for _, third := range strange() {
				p := ofTexts(t, first, second, third)
				p.empty()
			}
		}
	}
}

// G2: tickets go on behind things that are gone, and one that found no room has none.
func TestTicketsGoOn(t *testing.T) {
	a := newAgenda[string](t, 2)
	want := 0
	push := func(weight int) {
		t.Helper()
		want++
		if n, e := a.Push("x", weight); n != want || e != api.OK {
			t.Fatalf("Push: %d, %v; want %d", n, e, want)
		}
	}
	for range 50 {
		push(3)
		push(2)
		a.Push("y", 1)
		a.Pop()
		push(1)
		a.Drop(want)
		push(4)
		a.Weigh(want, 0)
		a.Push("y", 1)
		a.Pop()
		a.Pop()
		a.Pop()
		a.Drop(want)
	}
}

// G3
func TestPeekAndPop(t *testing.T) {
	p := newBoth[string](t, 5)
	for range 3 {
		if got := tell(p.a.Peek()); got != (told[string]{}) {
			t.Errorf("Peek of nothing: %v", got)
		}
		if got := tell(p.a.Pop()); got != (told[string]{}) {
			t.Errorf("Pop of nothing: %v", got)
		}
	}
	p.push("one", 7)
	for range 3 {
		if got := tell(p.a.Peek()); got != (told[string]{"one", 1, true}) || p.a.Len() != 1 {
			t.Errorf("Peek of one: %v", got)
		}
	}
	p.pop()
	p.pop()
	p.push("a", 4)
	p.push("b", 4)
	p.push("c", 3)
	p.push("d", 4)
	p.push("e", 3)
	for _, want := range []told[string]{{"c", 4, true}, {"e", 6, true}, {"a", 2, true}, {"b", 3, true}, {"d", 5, true}, {}, {}} {
		if got := tell(p.a.Peek()); got != want {
			t.Errorf("Peek: %v; want %v", got, want)
		}
		if got := tell(p.a.Pop()); got != want {
			t.Errorf("Pop: %v; want %v", got, want)
		}
	}
}

// G3: what is put in while others come out takes its turn by its weight, behind those alike.
func TestPopAndPushByTurns(t *testing.T) {
	p := ofTexts(t, 5, 1, 5, 3)
	p.pop()
	p.push("e", 3)
	p.push("f", 2)
	wantTickets(t, "by turns", p.a, 6, 4, 5, 1, 3)
	p.pop()
	p.pop()
	p.push("g", 5)
	p.push("h", math.MinInt)
	wantTickets(t, "by turns", p.a, 8, 5, 1, 3, 7)
	p.empty()
}

// G5: Len behind each call, of those too that do nothing.
func TestLen(t *testing.T) {
	a := newAgenda[string](t, 3)
	for i, c := range []struct {
		do  func()
		len int
	}{
		{func() {}, 0},
		{func() { a.Pop() }, 0},
		{func() { a.Peek() }, 0},
		{func() { a.Drop(1) }, 0},
		{func() { a.Weigh(1, 1) }, 0},
		{func() { a.All() }, 0},
		{func() { a.Push("", 0) }, 1},
		{func() { a.Push("", 0) }, 2},
		{func() { a.Peek() }, 2},
		{func() { a.Push("a", -1) }, 3},
		{func() { a.Push("b", -1) }, 3},
		{func() { a.Weigh(1, 5) }, 3},
		{func() { a.Weigh(4, 5) }, 3},
		{func() { walk(a, -1) }, 3},
		{func() { walk(a, 1) }, 3},
		{func() { a.Drop(4) }, 3},
		{func() { a.Drop(2) }, 2},
		{func() { a.Drop(2) }, 2},
		{func() { a.Pop() }, 1},
		{func() { a.Push("c", 3) }, 2},
		{func() { a.Pop() }, 1},
		{func() { a.Pop() }, 0},
		{func() { a.Pop() }, 0},
	} {
		c.do()
		if a.Len() != c.len {
			t.Fatalf("call %d: Len is %d; want %d", i, a.Len(), c.len)
		}
	}
}

// TestThingsAlike: things that are one and the same are told apart by their tickets.
func TestThingsAlike(t *testing.T) {
	p := newBoth[string](t, 4)
	for range 4 {
		p.push("a", 1)
	}
	p.drop(2)
	p.weigh(4, 0)
	if got := walk(p.a, -1); !slices.Equal(got, []pair[string]{{4, "a"}, {1, "a"}, {3, "a"}}) {
		t.Errorf("%v", got)
	}
	p.empty()
}
