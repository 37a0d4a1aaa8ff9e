package knit

import (
	"math"
	"slices"
	"testing"
)

func sameGroups(a, b [][]int) bool {
	return slices.EqualFunc(a, b, func(x, y []int) bool { return slices.Equal(x, y) })
}

// wrong are numbers that are no elements of New(n).
func wrong(n int) []int {
	return []int{math.MinInt, -2, -1, n, n + 1, math.MaxInt}
}

func TestExample(t *testing.T) { // P3.1
	k := New(3)
	if !k.Join(0, 2) {
		t.Error("Join")
	}
	if l := k.Groups(); !sameGroups(l, [][]int{{0, 2}, {1}}) {
		t.Error(l)
	}
}

func TestNew(t *testing.T) { // P3.1
	for _, n := range []int{0, 1, 2, 3, 10} {
		k := New(n)
		var want [][]int
		for a := range n {
			want = append(want, []int{a})
			if k.Find(a) != a || !k.Same(a, a) {
				t.Errorf("New(%d): %d is not in a group of its own", n, a)
			}
			for b := range a {
				if k.Same(a, b) || k.Same(b, a) {
					t.Errorf("New(%d): %d and %d are in one group", n, a, b)
				}
			}
		}
		if l := k.Groups(); !sameGroups(l, want) {
			t.Errorf("New(%d): %v", n, l)
		}
		for _, a := range wrong(n) {
			if k.Find(a) != -1 {
				t.Errorf("New(%d): Find(%d) = %d", n, a, k.Find(a))
			}
		}
	}
}

func TestNewBelowZero(t *testing.T) { // P3.1
	for _, n := range []int{0, -1, -3, math.MinInt} {
		k := New(n)
		if k == nil {
			t.Fatalf("New(%d) is nil", n)
		}
		for _, a := range append(wrong(1), 0, n) {
			if k.Find(a) != -1 || k.Join(a, a) || k.Join(a, 0) || k.Join(0, a) || k.Same(a, a) || k.Same(a, 0) || k.Same(0, a) {
				t.Errorf("New(%d) has an element %d", n, a)
			}
		}
		if l := k.Groups(); len(l) != 0 {
			t.Errorf("New(%d): %v", n, l)
		}
	}
}

// TestNewOfVeryMany: a great number of elements alone is no reason for a panic (P1).
func TestNewOfVeryMany(t *testing.T) {
	for _, n := range []int{math.MaxInt32, math.MaxInt} {
		k := New(n)
		if !k.Join(n-1, 7) || k.Find(n-1) != 7 || k.Find(n-2) != n-2 || k.Find(n) != -1 || !k.Same(7, n-1) {
			t.Errorf("New(%d)", n)
		}
	}
}

// TestWrongElements: with elements that do not exist, on either side, calls answer -1 or false and have no effect (P3.1).
func TestWrongElements(t *testing.T) {
	const n = 4
	k := New(n)
	k.Join(3, 1)
	want := [][]int{{0}, {1, 3}, {2}}
	for _, a := range wrong(n) {
		if k.Find(a) != -1 {
			t.Errorf("Find(%d) = %d", a, k.Find(a))
		}
		for b := range n {
			if k.Join(a, b) || k.Join(b, a) || k.Same(a, b) || k.Same(b, a) {
				t.Errorf("%d and %d", a, b)
			}
		}
		for _, b := range wrong(n) {
			if k.Join(a, b) || k.Same(a, b) {
				t.Errorf("%d and %d", a, b)
			}
		}
		if l := k.Groups(); !sameGroups(l, want) {
			t.Fatalf("after Join with %d: %v", a, l)
		}
	}
}

func TestJoinTellsWhetherGroupsWereDifferent(t *testing.T) { // P3.1
	k := New(5)
	for _, c := range []struct {
		a, b   int
		joined bool
		want   [][]int
	}{
		{2, 2, false, [][]int{{0}, {1}, {2}, {3}, {4}}}, // an element with itself
		{4, 2, true, [][]int{{0}, {1}, {2, 4}, {3}}},
		{4, 4, false, [][]int{{0}, {1}, {2, 4}, {3}}},
		{4, 2, false, [][]int{{0}, {1}, {2, 4}, {3}}}, // two of one group
		{2, 4, false, [][]int{{0}, {1}, {2, 4}, {3}}},
		{1, 3, true, [][]int{{0}, {1, 3}, {2, 4}}},
		{3, 4, true, [][]int{{0}, {1, 2, 3, 4}}}, // neither of them the smallest of its group
		{1, 2, false, [][]int{{0}, {1, 2, 3, 4}}},
		{4, 0, true, [][]int{{0, 1, 2, 3, 4}}},
		{0, 3, false, [][]int{{0, 1, 2, 3, 4}}},
	} {
		if k.Join(c.a, c.b) != c.joined {
			t.Errorf("Join(%d, %d) is not %v", c.a, c.b, c.joined)
		}
		if l := k.Groups(); !sameGroups(l, c.want) {
			t.Errorf("after Join(%d, %d): %v", c.a, c.b, l)
		}
	}
}

// TestLongRow joins a row from either end, neighbour by neighbour: however deep that makes it, calls answer at once (P1, P3.1).
func TestLongRow(t *testing.T) {
	const n = 200000
	rows := []struct {
		name string
		join func(k *Knit, i int) bool // the step i of n - 1
	}{
		{"from below", func(k *Knit, i int) bool { return k.Join(i, i+1) }},
		{"from below, the upper first", func(k *Knit, i int) bool { return k.Join(i+1, i) }},
		{"from above", func(k *Knit, i int) bool { return k.Join(n-2-i, n-1-i) }},
		{"from above, the upper first", func(k *Knit, i int) bool { return k.Join(n-1-i, n-2-i) }},
		{"from above, by the last", func(k *Knit, i int) bool { return k.Join(n-1, n-2-i) }},
		{"from below, by the first", func(k *Knit, i int) bool { return k.Join(0, i+1) }},
	}
	for _, row := range rows {
		k := New(n)
		for i := range n - 1 {
			if !row.join(k, i) {
				t.Fatalf("%s: step %d", row.name, i)
			}
		}
		for a := n - 1; a >= 0; a-- {
			if k.Find(a) != 0 || !k.Same(a, n-1) {
				t.Fatalf("%s: Find(%d) = %d", row.name, a, k.Find(a))
			}
		}
		l := k.Groups()
		if len(l) != 1 || len(l[0]) != n || !slices.IsSorted(l[0]) {
			t.Errorf("%s: %d groups", row.name, len(l))
		}
	}
}

func TestNil(t *testing.T) { // P1, P3.1
	var k *Knit
	for _, a := range append(wrong(1), 0) {
		if k.Find(a) != -1 || k.Join(a, a) || k.Join(a, 0) || k.Same(a, a) || k.Same(0, a) {
			t.Error(a)
		}
	}
	if l := k.Groups(); len(l) != 0 {
		t.Error(l)
	}
}

// rolls are numbers that look mixed, and are the same in each run of the test.
func rolls(n int) []int {
	l := make([]int, n)
	x := uint32(12345)
	for i := range l {
		x = x*1664525 + 1013904223
		l[i] = int(x >> 16)
	}
	return l
}

// paint is the model: a colour for each element, which is the smallest element of that colour.
type paint []int

func (p paint) join(a, b int) bool {
	if a < 0 || b < 0 || a >= len(p) || b >= len(p) || p[a] == p[b] {
		return false
	}
	low, high := min(p[a], p[b]), max(p[a], p[b])
	for i := range p {
		if p[i] == high {
			p[i] = low
		}
	}
	return true
}

func (p paint) groups() [][]int {
	var groups [][]int
	for colour := range p {
		var group []int
		for a := range p {
			if p[a] == colour {
				group = append(group, a)
			}
		}
		if group != nil {
			groups = append(groups, group)
		}
	}
	return groups
}

// TestAgainstPaint holds objects against the model, call by call (P3.1), beside another object that must not be touched (P2).
func TestAgainstPaint(t *testing.T) {
	other := New(40)
	other.Join(39, 11)
	r := rolls(6000)
	for n := range 40 {
		k, p := New(n), make(paint, n)
		for i := range p {
			p[i] = i
		}
		for i := range 70 {
			a, b := r[(n*140+2*i)%len(r)]%(n+3)-1, r[(n*140+2*i+1)%len(r)]%(n+3)-1
			if got, want := k.Join(a, b), p.join(a, b); got != want {
				t.Fatalf("%d elements: Join(%d, %d) = %v", n, a, b, got)
			}
			// Asking for all groups at only some steps leaves long ways for the calls in between.
			if i%7 == 0 {
				if got, want := k.Groups(), p.groups(); !sameGroups(got, want) {
					t.Fatalf("%d elements: %v, not %v", n, got, want)
				}
			}
			for a := range p {
				if k.Find(a) != p[a] || k.Same(a, b) != (b >= 0 && b < n && p[a] == p[b]) {
					t.Fatalf("%d elements: Find(%d) = %d, not %d", n, a, k.Find(a), p[a])
				}
			}
		}
	}
	if l := other.Groups(); len(l) != 39 || !slices.Equal(l[11], []int{11, 39}) {
		t.Error("one object changed another one")
	}
}

// TestQuestionsHaveNoEffect: Find, Same and Groups may be asked again, and leave the groups as they are (P2).
func TestQuestionsHaveNoEffect(t *testing.T) {
	k := New(6)
	k.Join(5, 4)
	k.Join(4, 3)
	k.Join(3, 2)
	want := [][]int{{0}, {1}, {2, 3, 4, 5}}
	for range 3 {
		for a := range 6 {
			for b := range 6 {
				if k.Same(a, b) != (a == b || a >= 2 && b >= 2) {
					t.Errorf("Same(%d, %d)", a, b)
				}
			}
		}
		if l := k.Groups(); !sameGroups(l, want) {
			t.Error(l)
		}
	}
}

// TestGroupsAreNewMemory: what a caller does with the lists changes neither the object nor another list.
func TestGroupsAreNewMemory(t *testing.T) {
	k := New(6)
	k.Join(0, 3)
	k.Join(1, 4)
	want := [][]int{{0, 3}, {1, 4}, {2}, {5}}
	l := k.Groups()
	for i := range l {
		_ = append(l[i], 77, 78, 79)
	}
	if !sameGroups(l, want) {
		t.Error("the lists of an answer share memory", l)
	}
	for i := range l {
		for j := range l[i] {
			l[i][j] = -9
		}
	}
	if got := k.Groups(); !sameGroups(got, want) {
		t.Error("an answer is shared with the object", got)
	}
}
