// Package tray is layer 2: a priority queue, and a bounded FIFO queue.
package tray

// maxRing is the greatest bound that a Ring takes.
const maxRing = 65536

// Key is what a Heap orders: a time, a priority, a number, which of them.
type Key struct {
	Time, Prio, ID, N int
}

// Less orders keys by Time, then Prio, ID, N.
func (k Key) Less(o Key) bool {
	if k.Time != o.Time {
		return k.Time < o.Time
	}
	if k.Prio != o.Prio {
		return k.Prio < o.Prio
	}
	if k.ID != o.ID {
		return k.ID < o.ID
	}
	return k.N < o.N
}

// Heap is a priority queue of keys, the smallest first. Its zero value is empty and ready for use.
type Heap struct {
	keys []Key // a binary heap: no key is smaller than its parent
}

// Push adds a key.
func (h *Heap) Push(x Key) {
	if h == nil {
		return
	}
	h.keys = append(h.keys, x)
	h.rise(len(h.keys) - 1)
}

// Top returns the smallest key; false, if there is none.
func (h *Heap) Top() (Key, bool) {
	if h.Len() == 0 {
		return Key{}, false
	}
	return h.keys[0], true
}

// Pop removes and returns the smallest key; false, if there is none.
func (h *Heap) Pop() (Key, bool) {
	top, ok := h.Top()
	if !ok {
		return Key{}, false
	}
	last := len(h.keys) - 1
	h.keys[0] = h.keys[last]
	h.keys = h.keys[:last]
	h.sink(0)
	return top, true
}

// Len returns the number of keys.
func (h *Heap) Len() int {
	if h == nil {
		return 0
	}
	return len(h.keys)
}

func (h *Heap) rise(i int) {
	for i > 0 {
		parent := (i - 1) / 2
		if !h.keys[i].Less(h.keys[parent]) {
			return
		}
		h.keys[i], h.keys[parent] = h.keys[parent], h.keys[i]
		i = parent
	}
}

func (h *Heap) sink(i int) {
	for {
		least := i
		for _, child := range children(i) {
			if child < len(h.keys) && h.keys[child].Less(h.keys[least]) {
				least = child
			}
		}
		if least == i {
			return
		}
		h.keys[i], h.keys[least] = h.keys[least], h.keys[i]
		i = least
	}
}

func children(i int) [2]int {
	return [2]int{2*i + 1, 2*i + 2}
}

// Ring is a FIFO queue of a bounded number of elements.
type Ring[T any] struct {
	slots []T // used circularly; it grows on demand, so that a great bound alone costs nothing
	first int // the slot of the oldest element
	count int
	most  int
}

// NewRing returns a queue of at most that many elements, limited to 0 to 65536.
func NewRing[T any](most int) *Ring[T] {
	return &Ring[T]{most: min(max(most, 0), maxRing)}
}

// Push appends an element; false, if the queue is full.
func (r *Ring[T]) Push(x T) bool {
	if r == nil || r.count >= r.most {
		return false
	}
	if r.count == len(r.slots) {
		r.grow()
	}
	r.slots[(r.first+r.count)%len(r.slots)] = x
	r.count++
	return true
}

// Pop removes and returns the oldest element; false, if there is none.
func (r *Ring[T]) Pop() (T, bool) {
	var none T
	if r.Len() == 0 {
		return none, false
	}
	oldest := r.slots[r.first]
	// What was handed out must not be kept alive by its old slot.
	r.slots[r.first] = none
	r.first = (r.first + 1) % len(r.slots)
	r.count--
	return oldest, true
}

// Len returns the number of elements.
func (r *Ring[T]) Len() int {
	if r == nil {
		return 0
	}
	return r.count
}

func (r *Ring[T]) grow() {
	slots := make([]T, min(2*len(r.slots)+1, r.most))
	n := copy(slots, r.slots[r.first:])
	copy(slots[n:], r.slots[:r.first])
	r.slots, r.first = slots, 0
}
