package heap

import (
	"math/rand/v2"
	"slices"
	"testing"
)

// thing has a name beside its rank: which of two of one rank came out can be told.
type thing struct{ rank, name int }

func (t thing) Before(o thing) bool { return t.rank < o.rank }

// pointed is ranked backwards.
type pointed struct{ rank int }

func (p *pointed) Before(o *pointed) bool { return p.rank > o.rank }

func wantTop(t *testing.T, h *Heap[thing], rank int, ok bool) {
	t.Helper()
	if got, there := h.Top(); got.rank != rank || there != ok || !ok && got != (thing{}) {
		t.Fatalf("Top = %+v, %t, want rank %d, %t", got, there, rank, ok)
	}
}

func TestNothingInIt(t *testing.T) {
	var h Heap[thing]
	for range 2 {
		wantTop(t, &h, 0, false)
		if got, ok := h.Pop(); got != (thing{}) || ok || h.Len() != 0 {
			t.Errorf("Pop of nothing = %+v, %t; Len %d", got, ok, h.Len())
		}
		for got := range h.All() {
			t.Errorf("All of nothing has %+v", got)
		}
	}
}

// TestEveryOrder: whatever the order in which things were laid in, they come out by rank.
func TestEveryOrder(t *testing.T) {
	var orders func(ahead, left []int)
	orders = func(ahead, left []int) {
		if len(left) == 0 {
			wantSorted(t, ahead)
			return
		}
		for i := range left {
			orders(append(slices.Clone(ahead), left[i]), slices.Delete(slices.Clone(left), i, i+1))
		}
	}
	for n := range 8 {
		var ranks []int
		for i := range n {
			ranks = append(ranks, i*2/3) // some are the same
		}
		orders(nil, ranks)
	}
}

func wantSorted(t *testing.T, ranks []int) {
	t.Helper()
	var h Heap[thing]
	for i, rank := range ranks {
		h.Push(thing{rank, i})
	}
	for i, want := range slices.Sorted(slices.Values(ranks)) {
		if h.Len() != len(ranks)-i {
			t.Fatalf("%v: Len = %d, want %d", ranks, h.Len(), len(ranks)-i)
		}
		wantTop(t, &h, want, true)
		if got, ok := h.Pop(); got.rank != want || !ok {
			t.Fatalf("%v: Pop = %+v, %t, want rank %d", ranks, got, ok, want)
		}
	}
	wantTop(t, &h, 0, false)
}

// TestInAndOut: held against a list that is gone through from end to end.
func TestInAndOut(t *testing.T) {
	r := rand.New(rand.NewPCG(1, 2))
	for range 200 {
		var h Heap[thing]
		var list []thing
		for i := range 100 {
			if r.IntN(5) < 3 {
				list = append(list, thing{r.IntN(20), i})
				h.Push(list[len(list)-1])
			} else if got, ok := h.Pop(); ok != (len(list) > 0) {
				t.Fatalf("Pop = %+v, %t, of %v", got, ok, list)
			} else if ok {
				at := slices.Index(list, got)
				if at < 0 || slices.ContainsFunc(list, func(o thing) bool { return o.rank < got.rank }) {
					t.Fatalf("Pop = %+v, of %v", got, list)
				}
				list = slices.Delete(list, at, at+1)
			}
			wantAll(t, &h, list)
		}
	}
}

func wantAll(t *testing.T, h *Heap[thing], want []thing) {
	t.Helper()
	got := slices.Collect(h.All())
	for _, one := range want {
		if !slices.Contains(got, one) {
			t.Fatalf("All = %v, want all of %v", got, want)
		}
	}
	if len(got) != len(want) || h.Len() != len(want) {
		t.Fatalf("All = %v, Len = %d, want %v", got, h.Len(), want)
	}
}

// TestLeftEarly: whoever has seen enough need not go through all.
func TestLeftEarly(t *testing.T) {
	var h Heap[thing]
	for i := range 5 {
		h.Push(thing{i, i})
	}
	seen := 0
	for range h.All() {
		seen++
		if seen == 2 {
			break
		}
	}
	if seen != 2 {
		t.Errorf("%d things were seen, want 2", seen)
	}
}

// TestNotKept: what came out is not held by the heap.
func TestNotKept(t *testing.T) {
	var h Heap[*pointed]
	for i := range 7 {
		h.Push(&pointed{i})
	}
	for want := 6; want >= 0; want-- {
		if got, ok := h.Pop(); !ok || got.rank != want {
			t.Fatalf("Pop = %+v, %t, want %d", got, ok, want)
		}
		for _, left := range h.things[len(h.things):cap(h.things)] {
			if left != nil {
				t.Fatalf("%+v is kept in the room behind", left)
			}
		}
	}
	if got, ok := h.Pop(); got != nil || ok {
		t.Errorf("Pop of nothing = %+v, %t", got, ok)
	}
}
