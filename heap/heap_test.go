package heap

import (
	"math/rand"
	"slices"
	"testing"
)

func less(a, b int) bool { return a < b }

func takeAll[T any](h *Heap[T]) []T {
	var out []T
	for {
		item, ok := h.Take()
		if !ok {
			return out
		}
		out = append(out, item)
	}
}

func TestEmpty(t *testing.T) {
	h := New(less)
	for range 2 {
		if item, ok := h.Take(); item != 0 || ok {
			t.Errorf("Take of an empty heap = %d, %v", item, ok)
		}
		h.Put(7)
		if item, ok := h.Take(); item != 7 || !ok {
			t.Errorf("Take of a heap of 7 = %d, %v", item, ok)
		}
	}
}

func TestOrderIsTheGivenOne(t *testing.T) {
	items := []int{5, 1, 4, 1, 3, 9, 2, 6}
	rising, falling := New(less), New(func(a, b int) bool { return a > b })
	for _, item := range items {
		rising.Put(item)
		falling.Put(item)
	}
	if got := takeAll(rising); !slices.Equal(got, []int{1, 1, 2, 3, 4, 5, 6, 9}) {
		t.Errorf("the lesser first: %v", got)
	}
	if got := takeAll(falling); !slices.Equal(got, []int{9, 6, 5, 4, 3, 2, 1, 1}) {
		t.Errorf("the greater first: %v", got)
	}
}

func TestHoldsAnyType(t *testing.T) {
	type word struct {
		text string
		rank int
	}
	h := New(func(a, b word) bool { return a.rank < b.rank })
	for _, w := range []word{{"c", 3}, {"a", 1}, {"b", 2}} {
		h.Put(w)
	}
	if got := takeAll(h); !slices.Equal(got, []word{{"a", 1}, {"b", 2}, {"c", 3}}) {
		t.Errorf("structs: %v", got)
	}
}

func TestPutAndTakeMixed(t *testing.T) {
	r := rand.New(rand.NewSource(1))
	for range 200 {
		h := New(less)
		var held []int
		for range 300 {
			if r.Intn(5) < 3 {
				item := r.Intn(50)
				h.Put(item)
				held = append(held, item)
				slices.Sort(held)
				continue
			}
			item, ok := h.Take()
			if ok != (len(held) > 0) || ok && item != held[0] {
				t.Fatalf("Take = %d, %v of %v", item, ok, held)
			}
			if ok {
				held = held[1:]
			}
		}
		if got := takeAll(h); !slices.Equal(got, held) {
			t.Fatalf("the rest: %v, want %v", got, held)
		}
	}
}

func TestTakenIsLetGo(t *testing.T) {
	h := New(func(a, b *int) bool { return *a < *b })
	for i := range 9 {
		h.Put(&i)
	}
	takeAll(h)
	for _, p := range h.items[:cap(h.items)] {
		if p != nil {
			t.Errorf("the heap still holds %d", *p)
		}
	}
}
