package tray

import (
	"math"
	"slices"
	"testing"
)

// inOrder are keys in increasing order: an earlier field outweighs all later ones.
func inOrder() []Key {
	var l []Key
	steps := []int{math.MinInt, -1, 0, 1, math.MaxInt}
	for _, time := range steps {
		for _, prio := range steps {
			for _, id := range steps {
				for _, n := range steps {
					l = append(l, Key{time, prio, id, n})
				}
			}
		}
	}
	return l
}

func TestLess(t *testing.T) { // P2.1
	l := inOrder()
	for i, a := range l {
		for j, b := range l {
			if a.Less(b) != (i < j) {
				t.Fatalf("%v.Less(%v) = %v", a, b, a.Less(b))
			}
		}
	}
}

func popAll(h *Heap) []Key {
	var l []Key
	for h.Len() > 0 {
		k, ok := h.Pop()
		if !ok {
			break
		}
		l = append(l, k)
	}
	return l
}

func TestHeapExample(t *testing.T) { // P2.1
	var h Heap
	for _, time := range []int{3, 1, 2} {
		h.Push(Key{Time: time})
	}
	if l := popAll(&h); !slices.Equal(l, []Key{{Time: 1}, {Time: 2}, {Time: 3}}) {
		t.Error(l)
	}
}

func TestHeapSorts(t *testing.T) { // P2.1
	l := inOrder()
	for _, stride := range []int{1, 2, 7, 211, 313, len(l) - 1} { // all prime to len(l), which is 625
		var h Heap
		for i := range l {
			h.Push(l[i*stride%len(l)])
		}
		if got := popAll(&h); !slices.Equal(got, l) {
			t.Errorf("with stride %d keys are out of order", stride)
		}
	}
}

func TestHeapHoldsEqualKeys(t *testing.T) { // P2.1
	var h Heap
	a, b := Key{1, 2, 3, 4}, Key{1, 2, 3, 5}
	for _, k := range []Key{b, a, b, a, a} {
		h.Push(k)
	}
	if h.Len() != 5 {
		t.Error(h.Len())
	}
	if l := popAll(&h); !slices.Equal(l, []Key{a, a, a, b, b}) {
		t.Error(l)
	}
}

func TestEmptyHeap(t *testing.T) { // P2.1
	var h Heap
	for range 2 { // before the first key, and after the last one
		if k, ok := h.Top(); ok || k != (Key{}) {
			t.Error("Top", k, ok)
		}
		if k, ok := h.Pop(); ok || k != (Key{}) {
			t.Error("Pop", k, ok)
		}
		if h.Len() != 0 {
			t.Error("Len", h.Len())
		}
		h.Push(Key{5, 6, 7, 8})
		if k, ok := h.Pop(); !ok || k != (Key{5, 6, 7, 8}) {
			t.Error("Pop", k, ok)
		}
	}
}

func TestNilHeap(t *testing.T) { // P1, P2.1
	var h *Heap
	h.Push(Key{1, 1, 1, 1})
	if k, ok := h.Top(); ok || k != (Key{}) {
		t.Error("Top", k, ok)
	}
	if k, ok := h.Pop(); ok || k != (Key{}) {
		t.Error("Pop", k, ok)
	}
	if h.Len() != 0 {
		t.Error("Len", h.Len())
	}
}

// rolls are numbers that look mixed, and are the same in each run of the test.
func rolls(n int) []int {
	l := make([]int, n)
	x := uint32(12345)
	for i := range l {
		x = x*1664525 + 1013904223
		l[i] = int(x >> 16)
	}
	return l
}

// TestHeapAgainstList holds a heap against a sorted list, call by call (P2.1), beside a second heap that must not be touched (P2).
func TestHeapAgainstList(t *testing.T) {
	var h, other Heap
	other.Push(Key{Time: -1})
	var list []Key
	for _, roll := range rolls(4000) {
		if roll%5 < 3 {
			k := Key{roll / 5 % 3, roll / 15 % 3, roll / 45 % 3, roll / 135 % 3}
			h.Push(k)
			at, _ := slices.BinarySearchFunc(list, k, func(a, b Key) int {
				if a.Less(b) {
					return -1
				}
				return 1
			})
			list = slices.Insert(list, at, k)
		} else if k, ok := h.Pop(); ok != (len(list) > 0) {
			t.Fatal("Pop", k, ok, len(list))
		} else if ok {
			if k != list[0] {
				t.Fatal("Pop", k, list[0])
			}
			list = list[1:]
		}
		top, ok := h.Top()
		if h.Len() != len(list) || ok != (len(list) > 0) || ok && top != list[0] {
			t.Fatal("Top", top, ok, h.Len(), len(list))
		}
	}
	if l := popAll(&other); len(l) != 1 || l[0].Time != -1 {
		t.Error("one heap changed another one")
	}
}

func TestRingIsFirstInFirstOut(t *testing.T) { // P2.2
	r := NewRing[string](2)
	if !r.Push("a") || !r.Push("b") || r.Push("c") || r.Len() != 2 {
		t.Error("Push")
	}
	if x, ok := r.Pop(); !ok || x != "a" || r.Len() != 1 {
		t.Error(x, ok)
	}
	if !r.Push("d") || r.Push("e") {
		t.Error("Push after Pop")
	}
	for _, want := range []string{"b", "d"} {
		if x, ok := r.Pop(); !ok || x != want {
			t.Error(x, ok, want)
		}
	}
	if x, ok := r.Pop(); ok || x != "" || r.Len() != 0 {
		t.Error(x, ok)
	}
}

func TestRingBounds(t *testing.T) { // P2.2
	for _, c := range []struct{ most, want int }{
		{math.MinInt, 0}, {-1, 0}, {0, 0}, {1, 1}, {2, 2}, {3, 3}, {8, 8}, {100, 100},
		{65535, 65535}, {65536, 65536}, {65537, 65536}, {math.MaxInt, 65536},
	} {
		r := NewRing[int](c.most)
		for i := range c.want {
			if !r.Push(i) {
				t.Fatalf("NewRing(%d) is full at %d", c.most, i)
			}
		}
		if r.Push(-1) || r.Len() != c.want {
			t.Errorf("NewRing(%d) holds more than %d", c.most, c.want)
		}
		for i := range c.want {
			if x, ok := r.Pop(); !ok || x != i {
				t.Fatalf("NewRing(%d): Pop %d tells %d, %v", c.most, i, x, ok)
			}
		}
		if x, ok := r.Pop(); ok || x != 0 || r.Len() != 0 {
			t.Errorf("NewRing(%d): Pop of nothing tells %d, %v", c.most, x, ok)
		}
	}
}

func TestNilRing(t *testing.T) { // P1, P2.2
	var r *Ring[string]
	if r.Push("a") || r.Len() != 0 {
		t.Error("Push")
	}
	if x, ok := r.Pop(); ok || x != "" {
		t.Error(x, ok)
	}
}

// TestRingAgainstList holds rings against lists, call by call (P2.2), beside a second ring that must not be touched (P2).
func TestRingAgainstList(t *testing.T) {
	other := NewRing[Key](1)
	other.Push(Key{N: 9})
	for most := range 12 {
		r := NewRing[Key](most)
		var list []Key
		for i, roll := range rolls(2000) {
			// Runs of more pushes and of more pops in turn: so it gets full, and empty.
			if k := (Key{N: i}); roll%5 < 2+i/50%2 {
				if ok := r.Push(k); ok != (len(list) < most) {
					t.Fatal("Push", most, ok, len(list))
				} else if ok {
					list = append(list, k)
				}
			} else if k, ok := r.Pop(); ok != (len(list) > 0) || !ok && k != (Key{}) {
				t.Fatal("Pop", most, k, ok, len(list))
			} else if ok {
				if k != list[0] {
					t.Fatal("Pop", most, k, list[0])
				}
				list = list[1:]
			}
			if r.Len() != len(list) {
				t.Fatal("Len", most, r.Len(), len(list))
			}
		}
	}
	if k, ok := other.Pop(); !ok || k.N != 9 {
		t.Error("one ring changed another one")
	}
}

func TestRingLetsGo(t *testing.T) { // what was popped is not kept
	r := NewRing[*int](3)
	for range 3 {
		r.Push(new(int))
	}
	for range 3 {
		r.Pop()
	}
	for _, p := range r.slots {
		if p != nil {
			t.Error("a popped element is still held")
		}
	}
}
