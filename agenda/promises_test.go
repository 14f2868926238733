package agenda_test

import (
	"slices"
	"testing"

	"amalgam/agenda"
	"amalgam/api"
)

// P11.1: the chapter's table of examples.
func TestP111Examples(t *testing.T) {
	a, e := agenda.New[string](3)
	if e != api.OK {
		t.Fatal(e)
	}
	for _, c := range []struct {
		x              string
		weight, ticket int
		e              api.Errno
	}{{"a", 5, 1, 0}, {"b", 2, 2, 0}, {"c", 5, 3, 0}, {"d", 1, 0, 111}} {
		if n, e := a.Push(c.x, c.weight); n != c.ticket || e != c.e {
			t.Errorf("Push of %s: %d, %v", c.x, n, e)
		}
	}
	if got := tell(a.Peek()); got != (told[string]{"b", 2, true}) {
		t.Errorf("Peek: %v", got)
	}
	if got := tell(a.Pop()); got != (told[string]{"b", 2, true}) {
		t.Errorf("Pop: %v", got)
	}
	if a.Len() != 2 {
		t.Errorf("Len: %d", a.Len())
	}
	if !a.Weigh(3, 4) || a.Weigh(2, 0) {
		t.Error("Weigh")
	}
	if l := walk(a, -1); !slices.Equal(l, []pair[string]{{3, "c"}, {1, "a"}}) {
		t.Errorf("All: %v", l)
	}
	if !a.Drop(3) || a.Drop(3) {
		t.Error("Drop")
	}
	if n, e := a.Push("d", 5); n != 4 || e != api.OK {
		t.Errorf("Push of d: %d, %v", n, e)
	}
	for _, want := range []told[string]{{"a", 1, true}, {"d", 4, true}, {}} {
		if got := tell(a.Pop()); got != want {
			t.Errorf("Pop: %v; want %v", got, want)
		}
	}
	for _, most := range []int{0, 65537} {
		if a, e := agenda.New[string](most); a != nil || e != api.ErrArg {
			t.Errorf("New of %d: %v, %v", most, a, e)
		}
	}
}

// calls are some of those of an agenda with little in it.
func calls() []func(both[int]) {
	return []func(both[int]){
		func(p both[int]) { p.push(10, 0) },
		func(p both[int]) { p.push(20, 1) },
		func(p both[int]) { p.pop() },
		func(p both[int]) { p.drop(1) },
		func(p both[int]) { p.drop(2) },
		func(p both[int]) { p.weigh(1, 1) },
		func(p both[int]) { p.weigh(2, -1) },
		func(p both[int]) { p.weigh(3, 0) },
	}
}

// P11.1: all short rows of calls, held against the second reading behind each.
func TestP111AllShortRows(t *testing.T) {
	all := calls()
	const length = 5
	rows := 1
	for range length {
		rows *= len(all)
	}
	for most := 1; most <= 3; most++ {
		for row := range rows {
			p := newBoth[int](t, most)
			for range length {
				all[row%len(all)](p)
				row /= len(all)
			}
			p.empty()
		}
	}
}

// P11.1: long rows of calls.
func TestP111LongRows(t *testing.T) {
	m := newMaker(3)
	for round := range 60 {
		p := newBoth[int](t, 1+m.Intn(40))
		weights := 1 + m.Intn(1+round)
		weight := func() int {
			if m.Intn(20) == 0 {
				return strange()[m.Intn(len(strange()))]
			}
			return m.Intn(weights) - weights/2
		}
		// A ticket that is in more often than one that is not.
		ticket := func() int {
			if n := len(p.b.rows); n > 0 && m.Intn(4) > 0 {
				return p.b.rows[m.Intn(n)].ticket
			}
			return m.Intn(p.b.last+3) - 1
		}
		for range 500 {
			switch m.Intn(7) {
			case 0, 1, 2:
				p.push(m.Int(), weight())
			case 3:
				p.pop()
			case 4:
				p.drop(ticket())
			default:
				p.weigh(ticket(), weight())
			}
		}
		p.empty()
	}
}

// P11.2: things that are all put in ahead come out by rising weights, those alike as they came.
func TestP112InOrder(t *testing.T) {
	type thing struct{ number, weight int }
	m := newMaker(4)
	for round := range 200 {
		a := newAgenda[thing](t, 300)
		var want []thing
		for number := range m.Intn(300) {
			x := thing{number, m.Intn(1+round) - round/2}
			want = append(want, x)
			a.Push(x, x.weight)
		}
		slices.SortStableFunc(want, func(x, y thing) int { return x.weight - y.weight })
		for i, x := range want {
			if got := tell(a.Pop()); got != (told[thing]{x, x.number + 1, true}) {
				t.Fatalf("Pop %d: %v; want %v", i, got, x)
			}
		}
		if got := tell(a.Pop()); got != (told[thing]{}) {
			t.Fatalf("behind the last: %v", got)
		}
	}
}

// P11.2: all lists of weights up to six.
func TestP112AllShortLists(t *testing.T) {
	for n := range 7 {
		lists := 1
		for range n {
			lists *= 4
		}
		for list := range lists {
			a := newAgenda[int](t, 6)
			at := make([][]int, 4)
			for i := range n {
				a.Push(list%4, list%4)
				at[list%4] = append(at[list%4], i+1)
				list /= 4
			}
			for weight, l := range at {
				for _, ticket := range l {
					if got := tell(a.Pop()); got != (told[int]{weight, ticket, true}) {
						t.Fatalf("Pop: %v; want %d, %d", got, weight, ticket)
					}
				}
			}
		}
	}
}

// reach is an agenda with just these rows in (up to the ticket last), by a way that is made up: others come and go, and weights change before they are what they are to be.
func reach(t *testing.T, m interface{ Intn(int) int }, rows []row[int], last int) *agenda.Agenda[int] {
	t.Helper()
	a := newAgenda[int](t, 100)
	var others []int
	next := 0
	for ticket := 1; ticket <= last; ticket++ {
		x := -ticket
		if next < len(rows) && rows[next].ticket == ticket {
			x = rows[next].x
			next++
		} else {
			others = append(others, ticket)
		}
		a.Push(x, m.Intn(30))
		for range m.Intn(3) {
			a.Weigh(1+m.Intn(ticket), m.Intn(30))
		}
		if len(others) > 0 && m.Intn(2) == 0 {
			a.Drop(others[0])
			others = others[1:]
		}
	}
	for _, i := range order(m, len(others)) {
		a.Drop(others[i])
	}
	for _, i := range order(m, len(rows)) {
		a.Weigh(rows[i].ticket, rows[i].weight)
	}
	return a
}

// order is a row of the numbers up to n, shuffled.
func order(m interface{ Intn(int) int }, n int) []int {
	l := make([]int, n)
	for i := range l {
		j := m.Intn(i + 1)
		l[i], l[j] = l[j], i
	}
	return l
}

// P11.3: what comes out hangs on what is in, its weights and tickets, and not on how it came to be so.
func TestP113Whichever(t *testing.T) {
	m := newMaker(5)
	for range 200 {
		last := 1 + m.Intn(60)
		b := &book[int]{most: 100, last: last}
		for ticket := 1; ticket <= last; ticket++ {
			if m.Intn(3) > 0 {
				b.rows = append(b.rows, row[int]{x: m.Int(), weight: m.Intn(8) - 4, ticket: ticket})
			}
		}
		for range 6 {
			p := both[int]{t, reach(t, m, b.rows, last), &book[int]{most: 100, last: last, rows: slices.Clone(b.rows)}}
			p.agree()
			p.push(7, 0)
			p.weigh(1+m.Intn(last), 1)
			p.drop(1 + m.Intn(last))
			p.empty()
		}
	}
}

// P11.3: the same weights, given in each order.
func TestP113WeighedInEachOrder(t *testing.T) {
	weights := []int{4, 2, 4, 1, 2}
	want := []int{4, 2, 5, 1, 3}
	for way := range 5 * 5 * 5 * 5 * 5 {
		a := newAgenda[int](t, 5)
		for i := range 5 {
			a.Push(i, 3)
		}
		met := [5]bool{}
		for range 5 {
			a.Weigh(way%5+1, weights[way%5])
			met[way%5] = true
			way /= 5
		}
		if met == [5]bool{true, true, true, true, true} {
			wantTickets(t, "All", a, want...)
			for _, ticket := range want {
				if x, n, ok := a.Pop(); x != ticket-1 || n != ticket || !ok {
					t.Fatalf("Pop: %d, %d, %v; want ticket %d", x, n, ok, ticket)
				}
			}
		}
	}
}
