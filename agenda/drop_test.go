package agenda_test

import (
	"math"
	"testing"
)

// tree are weights of which many are alike; as they come they make the library move much.
func tree() []int { return []int{5, 3, 9, 3, 1, 9, 5, 0, 7, 3, 2, 9, -4, 5, 6} }

// G4: the thing of each ticket, the first, the last and those between among them, by two orders: as it came, and as it would come out.
func TestDropEach(t *testing.T) {
	for ticket := -2; ticket <= len(tree())+2; ticket++ {
		p := ofTexts(t, tree()...)
		in := ticket >= 1 && ticket <= len(tree())
		if p.a.Drop(ticket) != in || p.b.drop(ticket) != in {
			t.Errorf("Drop of %d", ticket)
		}
		p.agree()
		for range 2 {
			if p.a.Drop(ticket) {
				t.Errorf("Drop of %d again", ticket)
			}
			p.agree()
		}
		p.weigh(ticket, math.MinInt)
		p.push("new", 3)
		p.empty()
	}
}

// G4: any two, in this order.
func TestDropTwo(t *testing.T) {
	for first := range len(tree()) {
		for second := range len(tree()) {
			p := ofTexts(t, tree()...)
			p.drop(first + 1)
			p.drop(second + 1)
			p.empty()
		}
	}
}

func TestDropAll(t *testing.T) {
	n := len(tree())
	for _, ticket := range []func(i int) int{
		func(i int) int { return i + 1 },
		func(i int) int { return n - i },
		func(i int) int { return i*7%n + 1 },
	} {
		p := ofTexts(t, tree()...)
		for i := range n {
			p.drop(ticket(i))
		}
		if p.a.Len() != 0 {
			t.Errorf("%d things are left", p.a.Len())
		}
		p.pop()
		p.push("new", 0)
	}
}

// G4: tickets that never were, that are gone, 0 and below.
func TestTicketsOfNothing(t *testing.T) {
	for _, ticket := range strange() {
		p := newBoth[string](t, 9)
		p.drop(ticket)
		p.weigh(ticket, 1)
		p.push("a", 5)
		p.push("b", 4)
		p.push("c", 6)
		p.push("d", 1)
		p.pop()
		p.drop(2)
		for _, weight := range strange() {
			p.weigh(ticket, weight)
		}
		p.drop(ticket)
		p.weigh(ticket, 9)
		p.drop(ticket)
		if p.a.Drop(4) || p.a.Weigh(4, 0) || p.a.Drop(2) || p.a.Weigh(2, 0) || p.a.Drop(5) || p.a.Weigh(5, 0) {
			t.Error("a ticket of nothing")
		}
		p.push("e", 5)
		p.empty()
	}
}

// G4: each thing, by each weight about those of the others.
func TestWeighEach(t *testing.T) {
	for ticket := range len(tree()) {
		for weight := -6; weight <= 11; weight++ {
			p := ofTexts(t, tree()...)
			p.weigh(ticket+1, weight)
			p.weigh(ticket+1, weight)
			p.empty()
		}
		for _, weight := range strange() {
			p := ofTexts(t, tree()...)
			p.weigh(ticket+1, weight)
			p.weigh(ticket+1, tree()[ticket])
			p.weigh(ticket+1, weight)
			p.drop(ticket + 1)
			p.empty()
		}
	}
}

// G4: a weight that makes a thing the next or the last, and one that it has already; its ticket stays.
func TestWeigh(t *testing.T) {
	p := ofTexts(t, 2, 4, 4, 6)
	wantTickets(t, "ahead", p.a, 1, 2, 3, 4)
	p.weigh(4, 1)
	wantTickets(t, "the last becomes the next", p.a, 4, 1, 2, 3)
	p.weigh(4, 9)
	wantTickets(t, "the next becomes the last", p.a, 1, 2, 3, 4)
	p.weigh(2, 4)
	wantTickets(t, "the same weight again", p.a, 1, 2, 3, 4)
	p.weigh(2, 5)
	wantTickets(t, "behind one that was alike", p.a, 1, 3, 2, 4)
	p.weigh(2, 4)
	wantTickets(t, "alike again: the ticket counts", p.a, 1, 2, 3, 4)
	p.weigh(3, 2)
	wantTickets(t, "alike with the next", p.a, 1, 3, 2, 4)
	p.weigh(1, 4)
	wantTickets(t, "alike with one behind", p.a, 3, 1, 2, 4)
	p.weigh(2, math.MaxInt)
	p.weigh(4, math.MaxInt)
	p.weigh(1, math.MinInt)
	wantTickets(t, "the least and the greatest", p.a, 1, 3, 2, 4)
	if got := tell(p.a.Peek()); got != (told[string]{"a", 1, true}) {
		t.Errorf("Peek: %v", got)
	}
	p.push("e", math.MinInt)
	wantTickets(t, "one more", p.a, 1, 5, 3, 2, 4)
	p.empty()
}

// G4: of one thing.
func TestWeighAndDropOfOne(t *testing.T) {
	p := ofTexts(t, 3)
	for _, weight := range strange() {
		p.weigh(1, weight)
		p.weigh(1, weight)
		p.weigh(2, weight)
	}
	p.drop(1)
	p.weigh(1, 0)
	p.push("b", 3)
	p.weigh(1, 0)
	p.drop(1)
	p.drop(2)
}
