package agenda_test

import (
	"math"
	"math/rand"
	"slices"
	"testing"

	"amalgam/agenda"
	"amalgam/api"
)

type texts = agenda.Agenda[string]

// told is what Peek and Pop answer.
type told[T comparable] struct {
	x      T
	ticket int
	ok     bool
}

func tell[T comparable](x T, ticket int, ok bool) told[T] { return told[T]{x, ticket, ok} }

// pair is what All tells.
type pair[T comparable] struct {
	ticket int
	x      T
}

// walk is what All tells, up to so many; below 0: to the end.
func walk[T comparable](a *agenda.Agenda[T], most int) []pair[T] {
	var l []pair[T]
	for ticket, x := range a.All() {
		if l = append(l, pair[T]{ticket, x}); len(l) == most {
			break
		}
	}
	return l
}

// row is a thing of the second reading.
type row[T comparable] struct {
	x              T
	weight, ticket int
}

// book is the chapter read a second time: things as they came, among which the next one is looked for each time anew.
type book[T comparable] struct {
	most, last int
	rows       []row[T]
}

func (b *book[T]) push(x T, weight int) (int, api.Errno) {
	if len(b.rows) == b.most {
		return 0, api.ErrAgendaFull
	}
	b.last++
	b.rows = append(b.rows, row[T]{x, weight, b.last})
	return b.last, api.OK
}

// next is where the next thing is; -1, if there is none.
func (b *book[T]) next() int {
	least := -1
	for i, r := range b.rows {
		// The rows stand by rising tickets, so that of those alike the first one stays.
		if least < 0 || r.weight < b.rows[least].weight {
			least = i
		}
	}
	return least
}

func (b *book[T]) peek() told[T] {
	i := b.next()
	if i < 0 {
		return told[T]{}
	}
	return told[T]{b.rows[i].x, b.rows[i].ticket, true}
}

func (b *book[T]) pop() told[T] {
	next := b.peek()
	b.drop(next.ticket)
	return next
}

func (b *book[T]) drop(ticket int) bool {
	n := len(b.rows)
	b.rows = slices.DeleteFunc(b.rows, func(r row[T]) bool { return r.ticket == ticket })
	return len(b.rows) < n
}

func (b *book[T]) weigh(ticket, weight int) bool {
	for i := range b.rows {
		if b.rows[i].ticket == ticket {
			b.rows[i].weight = weight
			return true
		}
	}
	return false
}

// all is what pop tells of a copy, until there is nothing.
func (b *book[T]) all() []pair[T] {
	c := &book[T]{rows: slices.Clone(b.rows)}
	var l []pair[T]
	for len(c.rows) > 0 {
		next := c.pop()
		l = append(l, pair[T]{next.ticket, next.x})
	}
	return l
}

// both is an agenda and its book, to which the same is done.
type both[T comparable] struct {
	*testing.T
	a *agenda.Agenda[T]
	b *book[T]
}

func newBoth[T comparable](t *testing.T, most int) both[T] {
	t.Helper()
	return both[T]{t, newAgenda[T](t, most), &book[T]{most: most}}
}

func newAgenda[T any](t *testing.T, most int) *agenda.Agenda[T] {
	t.Helper()
	a, e := agenda.New[T](most)
	if a == nil || e != api.OK {
		t.Fatalf("New of %d: %v, %v", most, a, e)
	}
	return a
}

func (p both[T]) push(x T, weight int) {
	p.Helper()
	ticket, e := p.a.Push(x, weight)
	if n, f := p.b.push(x, weight); ticket != n || e != f {
		p.Fatalf("Push of %v, %d: %d, %v; want %d, %v", x, weight, ticket, e, n, f)
	}
	p.agree()
}

func (p both[T]) pop() {
	p.Helper()
	if got, want := tell(p.a.Pop()), p.b.pop(); got != want {
		p.Fatalf("Pop: %v; want %v", got, want)
	}
	p.agree()
}

func (p both[T]) drop(ticket int) {
	p.Helper()
	if got, want := p.a.Drop(ticket), p.b.drop(ticket); got != want {
		p.Fatalf("Drop of %d: %v; want %v", ticket, got, want)
	}
	p.agree()
}

func (p both[T]) weigh(ticket, weight int) {
	p.Helper()
	if got, want := p.a.Weigh(ticket, weight), p.b.weigh(ticket, weight); got != want {
		p.Fatalf("Weigh of %d, %d: %v; want %v", ticket, weight, got, want)
	}
	p.agree()
}

// agree holds all that can be asked without a change against the book.
func (p both[T]) agree() {
	p.Helper()
	for range 2 {
		if got, want := p.a.Len(), len(p.b.rows); got != want {
			p.Fatalf("Len: %d; want %d", got, want)
		}
		if got, want := tell(p.a.Peek()), p.b.peek(); got != want {
			p.Fatalf("Peek: %v; want %v", got, want)
		}
		if got, want := walk(p.a, -1), p.b.all(); !slices.Equal(got, want) {
			p.Fatalf("All: %v; want %v", got, want)
		}
	}
}

// empty takes all out.
func (p both[T]) empty() {
	p.Helper()
	for range len(p.b.rows) + 1 {
		p.pop()
	}
}

// ofTexts is an agenda with room to spare, of texts with these weights: a, b, c and so on.
func ofTexts(t *testing.T, weights ...int) both[string] {
	t.Helper()
	p := newBoth[string](t, len(weights)+5)
	for i, weight := range weights {
		p.push(string(rune('a'+i)), weight)
	}
	return p
}

// tickets is what All tells of them.
func tickets[T comparable](a *agenda.Agenda[T]) []int {
	var l []int
	for ticket := range a.All() {
		l = append(l, ticket)
	}
	return l
}

func wantTickets[T comparable](t *testing.T, what string, a *agenda.Agenda[T], want ...int) {
	t.Helper()
	if got := tickets(a); !slices.Equal(got, want) {
		t.Errorf("%s: tickets %v; want %v", what, got, want)
	}
}

// strange are numbers that a weight or a ticket may be.
func strange() []int {
	return []int{math.MinInt, math.MinInt + 1, math.MinInt32, -65537, -2, -1, 0, 1, 2, 3, 65536, 65537, math.MaxInt32, math.MaxInt - 1, math.MaxInt}
}

func newMaker(seed int64) *rand.Rand { return rand.New(rand.NewSource(seed)) }
