package mark

import (
	"cmp"
	"fmt"
	"math"
	"math/rand"
	"slices"
	"testing"

	"marblerun/api"
	"marblerun/net"
	"marblerun/parse"
	"marblerun/print"
)

// arc is one of n tokens.
func arc(place, n int) api.Arc { return api.Arc{Place: place, N: n} }

// wantMay: whether t is enabled; marks stay as they are (P8.1 and the rule of memory).
func wantMay(t *testing.T, what string, tr api.Trans, marks []int, want bool) {
	t.Helper()
	before := slices.Clone(marks)
	if May(tr, marks) != want {
		t.Errorf("%s: May(%v, %v) is not %v", what, tr, before, want)
	}
	if !slices.Equal(marks, before) {
		t.Errorf("%s: May changed %v to %v", what, before, marks)
	}
}

// wantTake: marks after Take (P8.1).
func wantTake(t *testing.T, what string, tr api.Trans, marks, want []int) {
	t.Helper()
	before := slices.Clone(marks)
	Take(tr, marks)
	if !slices.Equal(marks, want) {
		t.Errorf("%s: Take(%v, %v): %v, not %v", what, tr, before, marks, want)
	}
}

// wantPut: what Put reports, and marks afterwards (P8.1).
func wantPut(t *testing.T, marks []int, place, n int, want bool, then []int) {
	t.Helper()
	before := slices.Clone(marks)
	if got := Put(marks, place, n); got != want || !slices.Equal(marks, then) {
		t.Errorf("Put(%v, %d, %d): %v %v, not %v %v", before, place, n, got, marks, want, then)
	}
}

// wantBest: the transition that fires next; marks stay as they are (P8.1 and the rule of memory).
func wantBest(t *testing.T, what string, n api.Net, marks []int, want int) {
	t.Helper()
	before := slices.Clone(marks)
	if got := Best(n, marks); got != want {
		t.Errorf("%s: Best(%v, %v): %d, not %d", what, n, before, got, want)
	}
	if !slices.Equal(marks, before) {
		t.Errorf("%s: Best changed %v to %v", what, before, marks)
	}
}

// prios is a net of transitions with these priorities, each of which takes a token from a place of its own.
func prios(list ...int) api.Net {
	var n api.Net
	for i, prio := range list {
		n.Places = append(n.Places, api.Place{Name: fmt.Sprint("p", i)})
		n.Trans = append(n.Trans, api.Trans{Name: fmt.Sprint("t", i), Prio: prio, In: []api.Arc{arc(i, 1)}})
	}
	return n
}

// ones are marks of so many places, of which those listed have a token.
func ones(places int, list ...int) []int {
	marks := make([]int, places)
	for _, i := range list {
		marks[i] = 1
	}
	return marks
}

func TestExample(t *testing.T) { // P8.1
	n := prios(3, 1)
	wantBest(t, "two that May, Prio 3 and 1", n, ones(2, 0, 1), 1)
}

func TestFirst(t *testing.T) { // P8.1
	for _, want := range [][]int{
		{}, {0}, {1}, {2}, {api.MaxNum - 1}, {api.MaxNum}, {0, 0}, {0, 1}, {1, 0}, {3, 1, 2}, {0, api.MaxNum, 0, 1, 5, 5},
	} {
		var n api.Net
		for i, tokens := range want {
			n.Places = append(n.Places, api.Place{Name: fmt.Sprint("p", i), Tokens: tokens})
		}
		if got := First(n); !slices.Equal(got, want) {
			t.Errorf("First: %v, not %v", got, want)
		}
		// Transitions have no part in it.
		n.Trans = []api.Trans{{Name: "t", Delay: 3, Prio: 2}, {Name: "u"}}
		if got := First(n); !slices.Equal(got, want) {
			t.Errorf("First beside transitions: %v, not %v", got, want)
		}
	}
	if got := First(api.Net{Places: []api.Place{}}); len(got) != 0 {
		t.Errorf("no places: %v", got)
	}
	var n api.Net
	for i := range api.MaxPlaces {
		n.Places = append(n.Places, api.Place{Name: fmt.Sprint("p", i), Tokens: 7 * i})
	}
	marks := First(n)
	if len(marks) != api.MaxPlaces || marks[0] != 0 || marks[1] != 7 || marks[31] != 217 {
		t.Errorf("as many places as may be: %v", marks)
	}
}

// TestFirstIsNew: changes of marks are seen in no net, and in no other marks (P2 and the rule of memory).
func TestFirstIsNew(t *testing.T) {
	n := api.Net{Places: []api.Place{{Name: "p", Tokens: 4}, {Name: "q", Tokens: 5}}}
	a, b := First(n), First(n)
	Put(a, 0, 10)
	Take(api.Trans{In: []api.Arc{arc(1, 2)}}, a)
	_ = append(a[:1], 99)
	if !slices.Equal(b, []int{4, 5}) || !slices.Equal(First(n), []int{4, 5}) {
		t.Errorf("%v %v", b, First(n))
	}
	if n.Places[0].Tokens != 4 || n.Places[1].Tokens != 5 {
		t.Errorf("the net was changed: %v", n)
	}
	n.Places[0].Tokens = 8
	if b[0] != 4 || First(n)[0] != 8 {
		t.Error("marks follow the net, or keep what it was")
	}
}

// TestMayNothing: one that takes nothing and asks nothing is always enabled (P8.1).
func TestMayNothing(t *testing.T) {
	for _, marks := range [][]int{nil, {}, {0}, {1}, {0, 0, 0}, {api.MaxTokens, 0}} {
		wantMay(t, "nil lists", api.Trans{Name: "t"}, marks, true)
		wantMay(t, "empty lists", api.Trans{Name: "t", In: []api.Arc{}, Not: []api.Arc{}, Out: []api.Arc{}}, marks, true)
	}
	wantMay(t, "one that only gives", api.Trans{Name: "t", Out: []api.Arc{arc(0, 5)}}, []int{0}, true)
}

// weights are the N at the edges and between.
var weights = []int{1, 2, 3, 10, 1000, api.MaxNum - 1, api.MaxNum}

func TestMayTakes(t *testing.T) { // P8.1
	for _, n := range weights {
		tr := api.Trans{Name: "t", In: []api.Arc{arc(1, n)}}
		wantMay(t, "none", tr, []int{n, 0, n}, false)
		wantMay(t, "one too few", tr, []int{n, n - 1, n}, false)
		wantMay(t, "just enough", tr, []int{0, n, 0}, true)
		wantMay(t, "one more", tr, []int{0, n + 1, 0}, true)
		wantMay(t, "as many as may be", tr, []int{0, api.MaxTokens, 0}, true)
		wantMay(t, "more than may be", tr, []int{0, api.MaxTokens + 1, 0}, true)
	}
}

func TestMayNot(t *testing.T) { // P8.1
	for _, n := range weights {
		tr := api.Trans{Name: "t", Not: []api.Arc{arc(1, n)}}
		wantMay(t, "none", tr, []int{n, 0, n}, true)
		wantMay(t, "just few enough", tr, []int{n, n - 1, n}, true)
		wantMay(t, "one too many", tr, []int{0, n, 0}, false)
		wantMay(t, "two too many", tr, []int{0, n + 1, 0}, false)
		wantMay(t, "as many as may be", tr, []int{0, api.MaxTokens, 0}, false)
		wantMay(t, "more than may be", tr, []int{0, api.MaxTokens + 1, 0}, false)
	}
}

// TestMayOfOnePlace: one that takes and asks of the same place is enabled between the two numbers (P8.1).
func TestMayOfOnePlace(t *testing.T) {
	for in := 1; in <= 5; in++ {
		for not := 1; not <= 5; not++ {
			for tokens := range 8 {
				tr := api.Trans{Name: "t", In: []api.Arc{arc(0, in)}, Not: []api.Arc{arc(0, not)}}
				wantMay(t, "of one place", tr, []int{tokens}, in <= tokens && tokens < not)
			}
		}
	}
	tr := api.Trans{Name: "t", In: []api.Arc{arc(0, api.MaxNum-1)}, Not: []api.Arc{arc(0, api.MaxNum)}}
	wantMay(t, "below both", tr, []int{api.MaxNum - 2}, false)
	wantMay(t, "between", tr, []int{api.MaxNum - 1}, true)
	wantMay(t, "above both", tr, []int{api.MaxNum}, false)
}

// TestMayTakesAndNot: both lists count, each for its own places (P8.1).
func TestMayTakesAndNot(t *testing.T) {
	tr := api.Trans{Name: "t", In: []api.Arc{arc(0, 2)}, Not: []api.Arc{arc(1, 3)}}
	for p := range 5 {
		for q := range 5 {
			wantMay(t, "both", tr, []int{p, q}, p >= 2 && q < 3)
		}
	}
}

// TestMayOneOfSeveral: one place is short, or too full, whichever it is (P8.1).
func TestMayOneOfSeveral(t *testing.T) {
	for count := 1; count <= api.MaxArcs; count++ {
		// The arcs go down, so that an arc's index is not its place.
		tr := api.Trans{Name: "t"}
		good := make([]int, 2*count)
		for i := range count {
			tr.In = append(tr.In, arc(count-1-i, i+1))
			tr.Not = append(tr.Not, arc(2*count-1-i, i+1))
			good[count-1-i], good[2*count-1-i] = i+1, i
		}
		wantMay(t, "all suffice", tr, good, true)
		for i := range count {
			marks := slices.Clone(good)
			marks[i]--
			wantMay(t, fmt.Sprint("place ", i, " is one short"), tr, marks, false)
			marks = slices.Clone(good)
			marks[count+i]++
			wantMay(t, fmt.Sprint("place ", count+i, " has one too many"), tr, marks, false)
		}
	}
}

// TestMayByListsAlone: neither Delay, Prio and Name nor Out count, not even if a place gets too many tokens (P8.1).
func TestMayByListsAlone(t *testing.T) {
	tr := api.Trans{Name: "t", In: []api.Arc{arc(0, 1)}, Out: []api.Arc{arc(1, api.MaxNum), arc(0, api.MaxNum)}}
	for _, x := range []int{0, 1, api.MaxNum} {
		tr.Delay, tr.Prio, tr.Name = x, api.MaxNum-x, fmt.Sprint("t", x)
		wantMay(t, "full", tr, []int{1, api.MaxTokens}, true)
		wantMay(t, "empty", tr, []int{0, 0}, false)
	}
}

func TestTake(t *testing.T) { // P8.1
	for _, n := range weights {
		tr := api.Trans{Name: "t", In: []api.Arc{arc(1, n)}}
		wantTake(t, "all", tr, []int{n, n, n}, []int{n, 0, n})
		wantTake(t, "all but one", tr, []int{0, n + 1, 0}, []int{0, 1, 0})
		wantTake(t, "of a full place", tr, []int{1, api.MaxTokens, 2}, []int{1, api.MaxTokens - n, 2})
		wantTake(t, "of too full a place", tr, []int{1, api.MaxTokens + 1, 2}, []int{1, api.MaxTokens + 1 - n, 2})
	}
	tr := api.Trans{Name: "t", In: []api.Arc{arc(2, 3), arc(0, 1)}}
	wantTake(t, "of two places", tr, []int{5, 6, 7}, []int{4, 6, 4})
	tr = api.Trans{Name: "t"}
	for i := range api.MaxArcs {
		tr.In = append(tr.In, arc(8-i, 10*i+1))
	}
	wantTake(t, "of eight places", tr, []int{100, 101, 102, 103, 104, 105, 106, 107, 108}, []int{100, 30, 41, 52, 63, 74, 85, 96, 107})
}

// TestTakeNothingElse: the places of Not and Out keep theirs, also beside In in the same place (P8.1).
func TestTakeNothingElse(t *testing.T) {
	for _, marks := range [][]int{nil, {}, {0}, {1, 2, 3}} {
		wantTake(t, "nil lists", api.Trans{Name: "t"}, slices.Clone(marks), marks)
		wantTake(t, "empty lists", api.Trans{Name: "t", In: []api.Arc{}}, slices.Clone(marks), marks)
	}
	for _, delay := range []int{0, 1} {
		tr := api.Trans{Name: "t", Delay: delay, Not: []api.Arc{arc(0, 2), arc(1, 9)}, Out: []api.Arc{arc(2, 5), arc(0, 1)}}
		wantTake(t, "Not and Out alone", tr, []int{1, 8, 3}, []int{1, 8, 3})
		tr.In = []api.Arc{arc(1, 4)}
		wantTake(t, "Not and Out beside In", tr, []int{1, 8, 3}, []int{1, 4, 3})
		tr = api.Trans{Name: "t", Delay: delay, In: []api.Arc{arc(0, 2)}, Not: []api.Arc{arc(0, 9)}, Out: []api.Arc{arc(0, 7)}}
		wantTake(t, "one place in all", tr, []int{5, 6}, []int{3, 6})
	}
}

// TestTakeUntilShort: taken again and again, as often as it is enabled (P8.1).
func TestTakeUntilShort(t *testing.T) {
	tr := api.Trans{Name: "t", In: []api.Arc{arc(0, 3), arc(1, 1)}}
	marks := []int{10, 10}
	count := 0
	for May(tr, marks) && count < 100 {
		Take(tr, marks)
		count++
	}
	if count != 3 || !slices.Equal(marks, []int{1, 7}) {
		t.Errorf("%d times: %v", count, marks)
	}
}

func TestPut(t *testing.T) { // P8.1
	const most = api.MaxTokens
	for _, c := range []struct {
		has, n int
		want   bool
	}{
		{0, 0, true}, {0, 1, true}, {1, 0, true}, {1, 1, true}, {5, 7, true}, {0, api.MaxNum, true},
		{0, most - 1, true}, {0, most, true}, {0, most + 1, false}, {1, most - 1, true}, {1, most, false}, {1, most + 1, false},
		{most - 1, 0, true}, {most - 1, 1, true}, {most - 1, 2, false}, {most, 0, true}, {most, 1, false}, {most, most, false},
		{most + 1, 0, false}, {most + 1, 1, false}, {most / 2, most / 2, true}, {most / 2, most/2 + 1, false},
		{most - api.MaxNum, api.MaxNum, true}, {most - api.MaxNum + 1, api.MaxNum, false}, {0, math.MaxInt, false},
	} {
		// Tokens that are too many are added as others are.
		wantPut(t, []int{c.has}, 0, c.n, c.want, []int{c.has + c.n})
		for place := range 3 {
			// The others are left alone, and how many they have does not count.
			marks := []int{most, most + 5, 3}
			marks[place] = c.has
			then := slices.Clone(marks)
			then[place] = c.has + c.n
			wantPut(t, marks, place, c.n, c.want, then)
		}
	}
}

// TestPutAgain: the bound is for what a place has in all (P8.1).
func TestPutAgain(t *testing.T) {
	marks := []int{0, 0}
	for i := range 4 {
		wantPut(t, marks, 1, api.MaxTokens/4, true, []int{0, (i + 1) * (api.MaxTokens / 4)})
	}
	wantPut(t, marks, 1, 1, false, []int{0, api.MaxTokens + 1})
	wantPut(t, marks, 0, 1, true, []int{1, api.MaxTokens + 1})
	Take(api.Trans{In: []api.Arc{arc(1, 2)}}, marks)
	wantPut(t, marks, 1, 1, true, []int{1, api.MaxTokens})
}

// TestPutBeyondInts: so many that no int holds them are still too many, then and later (P8.1, P1).
func TestPutBeyondInts(t *testing.T) {
	for _, has := range []int{0, 1, api.MaxTokens, math.MaxInt - 1, math.MaxInt} {
		for _, n := range []int{math.MaxInt, math.MaxInt - 1} {
			marks := []int{has, 7}
			for range 5 {
				if Put(marks, 0, n) {
					t.Errorf("%d and %d: true", has, n)
				}
			}
			if Put(marks, 0, 1) || marks[1] != 7 {
				t.Errorf("%d and %d: %v", has, n, marks)
			}
		}
	}
}

func TestAhead(t *testing.T) { // P8.1
	for _, c := range []struct {
		first, second int
		forth, back   bool
	}{
		{0, 0, true, false}, {1, 1, true, false}, {api.MaxNum, api.MaxNum, true, false},
		{0, 1, true, false}, {1, 2, true, false}, {0, api.MaxNum, true, false}, {api.MaxNum - 1, api.MaxNum, true, false},
		{1, 0, false, true}, {2, 1, false, true}, {api.MaxNum, 0, false, true}, {api.MaxNum, api.MaxNum - 1, false, true},
	} {
		n := prios(c.first, c.second)
		if Ahead(n, 0, 1) != c.forth || Ahead(n, 1, 0) != c.back {
			t.Errorf("priorities %d and %d: %v, and the other way %v", c.first, c.second, Ahead(n, 0, 1), Ahead(n, 1, 0))
		}
		if Ahead(n, 0, 0) || Ahead(n, 1, 1) {
			t.Errorf("priorities %d and %d: ahead of itself", c.first, c.second)
		}
	}
	n := prios(5, 3, 5, 3, 0)
	order := []int{4, 1, 3, 0, 2}
	for i, a := range order {
		for j, b := range order {
			if Ahead(n, a, b) != (i < j) {
				t.Errorf("Ahead of %d and %d: %v", a, b, i >= j)
			}
		}
	}
}

// TestAheadByPriorityAlone: whether they are enabled, and their delays and names, do not count (P8.1).
func TestAheadByPriorityAlone(t *testing.T) {
	n := api.Net{Places: []api.Place{{Name: "p"}}, Trans: []api.Trans{
		{Name: "z", Prio: 1, Delay: 9, In: []api.Arc{arc(0, 5)}}, {Name: "a", Prio: 1}, {Name: "b", Prio: 2}, {Name: "c", Delay: 1, Not: []api.Arc{arc(0, 1)}},
	}}
	for i, a := range []int{3, 0, 1, 2} {
		for j, b := range []int{3, 0, 1, 2} {
			if Ahead(n, a, b) != (i < j) {
				t.Errorf("Ahead of %d and %d: %v", a, b, i >= j)
			}
		}
	}
}

func TestBestOfNone(t *testing.T) { // P8.1
	wantBest(t, "a net of nothing", api.Net{}, nil, -1)
	wantBest(t, "a net of nothing", api.Net{Places: []api.Place{}, Trans: []api.Trans{}}, []int{}, -1)
	wantBest(t, "places alone", api.Net{Places: []api.Place{{Name: "p", Tokens: 9}}}, []int{9}, -1)
	for count := 1; count <= 5; count++ {
		wantBest(t, "none that May", prios(make([]int, count)...), make([]int, count), -1)
	}
	n := api.Net{Places: []api.Place{{Name: "p"}}, Trans: []api.Trans{
		{Name: "t", In: []api.Arc{arc(0, 3)}}, {Name: "u", Not: []api.Arc{arc(0, 2)}}, {Name: "v", In: []api.Arc{arc(0, 1)}, Not: []api.Arc{arc(0, 1)}},
	}}
	wantBest(t, "each one short, or too full", n, []int{2}, -1)
}

func TestBestWithoutPlaces(t *testing.T) { // P8.1
	for _, marks := range [][]int{nil, {}} {
		wantBest(t, "one", api.Net{Trans: []api.Trans{{Name: "t"}}}, marks, 0)
		wantBest(t, "equal", api.Net{Trans: []api.Trans{{Name: "t", Prio: 2}, {Name: "u", Prio: 2}}}, marks, 0)
		wantBest(t, "the third", api.Net{Trans: []api.Trans{{Name: "t", Prio: 2}, {Name: "u", Prio: 1}, {Name: "v"}}}, marks, 2)
	}
}

// TestBestOnly: the only one that May, also if all others are ahead of it (P8.1).
func TestBestOnly(t *testing.T) {
	for only := range 4 {
		list := []int{0, 0, 0, 0}
		wantBest(t, "equal ones", prios(list...), ones(4, only), only)
		list[only] = api.MaxNum
		wantBest(t, "the last one of all", prios(list...), ones(4, only), only)
	}
}

// TestBestOfSeveral: all subsets of several transitions, with all orders of their priorities (P8.1).
func TestBestOfSeveral(t *testing.T) {
	for code := range 3 * 3 * 3 * 3 {
		list := []int{code % 3, code / 3 % 3, code / 9 % 3, code / 27}
		n := prios(list...)
		for subset := range 16 {
			var may []int
			for i := range 4 {
				if subset>>i&1 == 1 {
					may = append(may, i)
				}
			}
			want := -1
			if len(may) > 0 {
				// A stable search by priority: of equal ones the first.
				want = slices.MinFunc(may, func(a, b int) int { return cmp.Compare(list[a], list[b]) })
			}
			wantBest(t, fmt.Sprint(list, may), n, ones(4, may...), want)
		}
	}
}

// TestBestOfAsMany: as many transitions as may be, with the best one at either end and between (P8.1).
func TestBestOfAsMany(t *testing.T) {
	all := make([]int, api.MaxTrans)
	for i := range all {
		all[i] = i
	}
	for best := range api.MaxTrans {
		list := slices.Repeat([]int{api.MaxNum}, api.MaxTrans)
		list[best] = api.MaxNum - 1
		wantBest(t, "one of a lower priority", prios(list...), ones(api.MaxPlaces, all...), best)
		wantBest(t, "the first of equal ones", prios(slices.Repeat([]int{api.MaxNum}, api.MaxTrans)...), ones(api.MaxPlaces, all[best:]...), best)
	}
}

// TestBestLooksAtMarks: it is by the marks that are given, not by the tokens that the places have at first (P8.1, P2).
func TestBestLooksAtMarks(t *testing.T) {
	n := prios(1, 0)
	n.Places[0].Tokens, n.Places[1].Tokens = 1, 1
	wantBest(t, "the first alone", n, []int{1, 0}, 0)
	wantBest(t, "none", n, []int{0, 0}, -1)
	wantBest(t, "at first", n, First(n), 1)
}

// TestFirings: what a run does at one time, firing by firing (P8.1).
func TestFirings(t *testing.T) {
	n := api.Net{
		Places: []api.Place{{Name: "p", Tokens: 3}, {Name: "q"}, {Name: "r", Tokens: 1}},
		Trans: []api.Trans{
			{Name: "t", Prio: 1, In: []api.Arc{arc(0, 1)}, Not: []api.Arc{arc(1, 2)}, Out: []api.Arc{arc(1, 1)}},
			{Name: "u", In: []api.Arc{arc(1, 2)}, Not: []api.Arc{arc(2, 3)}, Out: []api.Arc{arc(2, 2)}},
			{Name: "v", Prio: 1, In: []api.Arc{arc(2, 3), arc(0, 1)}},
		},
	}
	marks := First(n)
	var log []int
	for len(log) < 50 {
		i := Best(n, marks)
		if i < 0 {
			break
		}
		log = append(log, i)
		Take(n.Trans[i], marks)
		for _, a := range n.Trans[i].Out {
			if !Put(marks, a.Place, a.N) {
				t.Error("too many tokens")
			}
		}
	}
	if !slices.Equal(log, []int{0, 0, 1, 0}) || !slices.Equal(marks, []int{0, 1, 3}) {
		t.Errorf("%v: %v", log, marks)
	}
}

// chanceNet is a valid net made by chance, of small numbers, so that its transitions are often just enabled, or just not.
func chanceNet(r *rand.Rand) api.Net {
	var n api.Net
	for i := range r.Intn(1 + []int{3, 10, 32}[r.Intn(3)]) {
		n.Places = append(n.Places, api.Place{Name: fmt.Sprint("p", i), Tokens: r.Intn(5)})
	}
	arcs := func(most, spread int) (l []api.Arc) {
		order := r.Perm(len(n.Places))
		for _, place := range order[:r.Intn(min(len(order), most)+1)] {
			l = append(l, arc(place, 1+r.Intn(spread)))
		}
		return l
	}
	for i := range r.Intn(1 + []int{3, 10, 32}[r.Intn(3)]) {
		most := 1 + r.Intn(api.MaxArcs)
		n.Trans = append(n.Trans, api.Trans{
			Name: fmt.Sprint("t", i), Delay: r.Intn(2), Prio: r.Intn(4), In: arcs(most, 3), Not: arcs(most, 6), Out: arcs(most, 4),
		})
	}
	return n
}

// bounds are, for each place, the least and the greatest number of tokens with which t is enabled.
func bounds(t api.Trans, places int) (least, greatest []int) {
	least, greatest = make([]int, places), slices.Repeat([]int{math.MaxInt}, places)
	for _, a := range t.In {
		least[a.Place] = a.N
	}
	for _, a := range t.Not {
		greatest[a.Place] = a.N - 1
	}
	return least, greatest
}

// modelMay is May by the bounds of all places.
func modelMay(t api.Trans, marks []int) bool {
	least, greatest := bounds(t, len(marks))
	for i, tokens := range marks {
		if tokens < least[i] || tokens > greatest[i] {
			return false
		}
	}
	return true
}

// modelBest is the first one, sorted by priority and then by number, of those that may.
func modelBest(n api.Net, marks []int) int {
	var may []int
	for i, t := range n.Trans {
		if modelMay(t, marks) {
			may = append(may, i)
		}
	}
	slices.SortStableFunc(may, func(a, b int) int { return cmp.Compare(n.Trans[a].Prio, n.Trans[b].Prio) })
	return append(may, -1)[0]
}

// TestChanceNetsAgainstModel: runs of nets made by chance (P8.1). The nets are read back from their texts, which makes no
// difference (P5), and stay as they are (the rule of memory).
func TestChanceNetsAgainstModel(t *testing.T) {
	r := rand.New(rand.NewSource(8))
	fired, stuck := 0, 0
	for range 3000 {
		n := chanceNet(r)
		text, _ := print.Text(n)
		back, f := parse.Net(text)
		if net.Check(n) != api.OK || f != (api.Fault{}) {
			t.Fatalf("not valid: %v", n)
		}
		before := net.Copy(n)
		marks := First(n)
		if !slices.Equal(marks, First(back)) {
			t.Fatalf("First: %v, read back: %v", marks, First(back))
		}
		for range 20 {
			for _, tr := range n.Trans {
				wantMay(t, "a net made by chance", tr, marks, modelMay(tr, marks))
			}
			best := modelBest(n, marks)
			wantBest(t, "a net made by chance", n, marks, best)
			wantBest(t, "the same, read back", back, marks, best)
			if best < 0 {
				stuck++
				break
			}
			least, _ := bounds(n.Trans[best], len(marks))
			then := slices.Clone(marks)
			for i := range then {
				then[i] -= least[i]
			}
			wantTake(t, "a net made by chance", n.Trans[best], marks, then)
			for _, a := range n.Trans[best].Out {
				then[a.Place] += a.N
				wantPut(t, marks, a.Place, a.N, true, then)
			}
			fired++
		}
		if !net.Equal(n, before) {
			t.Fatalf("%v was changed to %v", before, n)
		}
		if t.Failed() {
			return
		}
	}
	if fired < 1000 || stuck < 100 {
		t.Errorf("the nets are one-sided: %d firings, %d ends", fired, stuck)
	}
}

// TestAheadIsAnOrder: of any two transitions one is ahead, and Best is ahead of all others that May (P8.1).
func TestAheadIsAnOrder(t *testing.T) {
	r := rand.New(rand.NewSource(80))
	for range 1000 {
		n := chanceNet(r)
		marks := First(n)
		best := Best(n, marks)
		for a := range n.Trans {
			for b := range n.Trans {
				if (a != b) != (Ahead(n, a, b) != Ahead(n, b, a)) {
					t.Fatalf("%d and %d of %v", a, b, n)
				}
			}
			if a != best && May(n.Trans[a], marks) && !Ahead(n, best, a) {
				t.Fatalf("%d is not ahead of %d in %v", best, a, n)
			}
		}
	}
}

// TestArgumentsStay: nothing is changed behind the ends of slices, nor in the lists of a transition, and the same calls
// answer the same (P2 and the rule of memory).
func TestArgumentsStay(t *testing.T) {
	lists := [][]api.Arc{{arc(0, 1), arc(1, 2), arc(7, 7)}, {arc(2, 3), arc(7, 7)}, {arc(1, 1), arc(7, 7)}}
	n := api.Net{
		Places: []api.Place{{Name: "p", Tokens: 5}, {Name: "q", Tokens: 6}, {Name: "r"}, {Name: "behind", Tokens: 9}}[:3],
		Trans:  []api.Trans{{Name: "t", Prio: 1, In: lists[0][:2], Not: lists[1][:1], Out: lists[2][:1]}, {Name: "behind"}}[:1],
	}
	before := net.Copy(n)
	long := []int{5, 6, 0, 77, 78}
	marks := long[:3]
	for range 3 {
		if !slices.Equal(First(n), []int{5, 6, 0}) || Ahead(n, 0, 0) {
			t.Error("First or Ahead")
		}
		wantMay(t, "again", n.Trans[0], marks, true)
		wantBest(t, "again", n, marks, 0)
		wantTake(t, "again", n.Trans[0], marks, []int{4, 4, 0})
		wantPut(t, marks, 0, 1, true, []int{5, 4, 0})
		wantPut(t, marks, 1, 2, true, []int{5, 6, 0})
	}
	if !net.Equal(n, before) || n.Places[:4][3] != (api.Place{Name: "behind", Tokens: 9}) || n.Trans[:2][1].Name != "behind" {
		t.Errorf("the net was changed: %v", n)
	}
	for _, list := range lists {
		if list[len(list)-1] != arc(7, 7) {
			t.Error("a list was changed behind its end")
		}
	}
	if long[3] != 77 || long[4] != 78 {
		t.Errorf("marks were changed behind their end: %v", long)
	}
}

// TestNumbersThatDoNotExist: nothing is promised for them, but that no call panics, and that what is there stays (P1).
func TestNumbersThatDoNotExist(t *testing.T) {
	wrong := []int{math.MinInt, -1, 2, 3, 32, math.MaxInt}
	n := prios(0, 1)
	for _, x := range wrong {
		list := []api.Arc{arc(x, 1)}
		for _, tr := range []api.Trans{{In: list}, {Not: list}, {Out: list}, {In: list, Not: list, Out: list}} {
			for _, marks := range [][]int{nil, {}, {3, 4}} {
				then := slices.Clone(marks)
				May(tr, marks)
				Best(api.Net{Trans: []api.Trans{tr, tr}}, marks)
				wantTake(t, "no such place", tr, marks, then)
			}
		}
		marks := []int{3, 4}
		Put(marks, x, 1)
		Put(nil, x, 1)
		if !slices.Equal(marks, []int{3, 4}) {
			t.Errorf("Put in place %d: %v", x, marks)
		}
		for _, y := range append(wrong, 0, 1) {
			Ahead(n, x, y)
			Ahead(n, y, x)
			Ahead(api.Net{}, x, y)
		}
	}
	for _, x := range wrong {
		for _, y := range wrong {
			tr := api.Trans{In: []api.Arc{arc(0, x)}, Not: []api.Arc{arc(0, y)}}
			for _, marks := range [][]int{{x}, {y}, {0}} {
				May(tr, marks)
				Take(tr, marks)
				Put(marks, 0, y)
				Best(api.Net{Trans: []api.Trans{tr}}, marks)
			}
		}
	}
	Best(n, nil)
	Best(n, []int{1})
	Best(n, []int{1, 1, 1, 1})
}
