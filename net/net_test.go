package net

import (
	"fmt"
	"math"
	"math/rand"
	"reflect"
	"slices"
	"strings"
	"testing"

	"marblerun/api"
	"marblerun/lex"
)

// arcs are arcs to places, one after another, each with another N.
func arcs(places ...int) []api.Arc {
	var l []api.Arc
	for i, p := range places {
		l = append(l, api.Arc{Place: p, N: i + 1})
	}
	return l
}

// sample is a valid net, new at each call, in which each list has several elements.
func sample() api.Net {
	return api.Net{
		Places: []api.Place{{Name: "p", Tokens: 1}, {Name: "q"}, {Name: "r.1", Tokens: 7}, {Name: "s", Tokens: 1}},
		Trans: []api.Trans{
			{Name: "t", Delay: 2, Prio: 3, In: arcs(0, 1, 2), Not: arcs(3, 0, 1), Out: arcs(1, 0, 3)},
			{Name: "u", Delay: 0, Prio: 1, In: arcs(3, 2, 1), Not: arcs(0, 1, 2), Out: arcs(2, 3, 0)},
			{Name: "v", Delay: 5, Prio: 0, In: arcs(1, 3, 0), Not: arcs(2, 0, 3), Out: arcs(3, 1, 2)},
		},
	}
}

// list is one of the three lists of a transition.
func list(t *api.Trans, which int) *[]api.Arc {
	return []*[]api.Arc{&t.In, &t.Not, &t.Out}[which]
}

// manyPlaces and manyTrans are n of them, with names of their own.
func manyPlaces(n int) []api.Place {
	var l []api.Place
	for i := range n {
		l = append(l, api.Place{Name: fmt.Sprint("p", i)})
	}
	return l
}

func manyTrans(n int) []api.Trans {
	var l []api.Trans
	for i := range n {
		l = append(l, api.Trans{Name: fmt.Sprint("t", i)})
	}
	return l
}

func manyArcs(n int) []api.Arc {
	var l []api.Arc
	for i := range n {
		l = append(l, api.Arc{Place: i, N: 1})
	}
	return l
}

func wantCheck(t *testing.T, what string, n api.Net, want api.Errno) {
	t.Helper()
	if e := Check(n); e != want {
		t.Errorf("%s: %d, not %d", what, e, want)
	}
}

func TestEmptyNet(t *testing.T) { // P5.1, P5.2, P1
	for i, n := range []api.Net{{}, {Places: []api.Place{}, Trans: []api.Trans{}}} {
		wantCheck(t, fmt.Sprint("empty net ", i), n, api.OK)
		if l := Names(n); len(l) != 0 {
			t.Error("Names:", l)
		}
		if !Equal(n, api.Net{}) || !Equal(api.Net{}, n) {
			t.Error("Equal")
		}
		if Place(n, "") != -1 || Trans(n, "") != -1 || Place(n, "p") != -1 || Trans(n, "p") != -1 {
			t.Error("a name is there")
		}
		if c := Copy(n); len(c.Places) != 0 || len(c.Trans) != 0 {
			t.Error("Copy:", c)
		}
	}
}

func TestValidNets(t *testing.T) { // P5.1
	wantCheck(t, "sample", sample(), api.OK)
	wantCheck(t, "places alone", api.Net{Places: manyPlaces(3)}, api.OK)
	wantCheck(t, "transitions alone", api.Net{Trans: manyTrans(3)}, api.OK)
	wantCheck(t, "one of each", api.Net{
		Places: []api.Place{{Name: "p", Tokens: 1}},
		Trans:  []api.Trans{{Name: "t", Delay: 2, In: arcs(0), Out: arcs(0)}},
	}, api.OK)
}

func TestTooManyPlacesOrTransitions(t *testing.T) { // P5.1
	wantCheck(t, "32 places", api.Net{Places: manyPlaces(32)}, api.OK)
	wantCheck(t, "33 places", api.Net{Places: manyPlaces(33)}, api.ErrLong)
	wantCheck(t, "32 transitions", api.Net{Trans: manyTrans(32)}, api.OK)
	wantCheck(t, "33 transitions", api.Net{Trans: manyTrans(33)}, api.ErrLong)
	wantCheck(t, "32 and 32", api.Net{Places: manyPlaces(32), Trans: manyTrans(32)}, api.OK)
	wantCheck(t, "33 and 32", api.Net{Places: manyPlaces(33), Trans: manyTrans(32)}, api.ErrLong)
	wantCheck(t, "32 and 33", api.Net{Places: manyPlaces(32), Trans: manyTrans(33)}, api.ErrLong)
	wantCheck(t, "very many places", api.Net{Places: make([]api.Place, 1<<20)}, api.ErrLong)
	wantCheck(t, "very many transitions", api.Net{Trans: make([]api.Trans, 1<<18)}, api.ErrLong)
}

func TestTooManyArcs(t *testing.T) { // P5.1
	for which := range 3 {
		for at := range 3 {
			n := api.Net{Places: manyPlaces(9), Trans: manyTrans(3)}
			l := list(&n.Trans[at], which)
			*l = manyArcs(8)
			wantCheck(t, fmt.Sprintf("8 arcs in list %d of %d", which, at), n, api.OK)
			*l = manyArcs(9)
			wantCheck(t, fmt.Sprintf("9 arcs in list %d of %d", which, at), n, api.ErrLong)
			*l = make([]api.Arc, 1<<18)
			wantCheck(t, fmt.Sprintf("very many arcs in list %d of %d", which, at), n, api.ErrLong)
		}
	}
	// Each list is counted by itself.
	n := api.Net{Places: manyPlaces(32), Trans: manyTrans(32)}
	for i := range n.Trans {
		n.Trans[i].In, n.Trans[i].Not, n.Trans[i].Out = manyArcs(8), manyArcs(8), manyArcs(8)
	}
	wantCheck(t, "8 arcs in each list", n, api.OK)
}

// TestNamesThatMayNotBe: a name is one by lex.Name, of a place and of a transition (P5.1).
func TestNamesThatMayNotBe(t *testing.T) {
	for _, name := range []string{
		"a", "z", "a.", "a9", "place", "trans", "abcdefghijkl", "a.0.1.2.3.4.",
		"", "A", "aB", "9", "9a", ".", ".a", " a", "a ", "a b", "a_b", "a-b", "->", ";", "#a", "a\n", "a\x00",
		"ä", "aä", "a\xff", "\x80", "ａ", "abcdefghijklm", "abcdefghijkä", strings.Repeat("a", 1<<20),
	} {
		want := api.ErrName
		if lex.Name(name) {
			want = api.OK
		}
		what := name[:min(len(name), 20)]
		for i := range 3 {
			n := sample()
			n.Places[i].Name = name
			wantCheck(t, fmt.Sprintf("place %d named %q", i, what), n, want)
			n = sample()
			n.Trans[i].Name = name
			wantCheck(t, fmt.Sprintf("transition %d named %q", i, what), n, want)
		}
	}
	if !lex.Name("abcdefghijkl") || lex.Name("abcdefghijklm") || lex.Name("") {
		t.Error("lex.Name")
	}
}

// TestNamesThatOccurTwice: among places, among transitions, and among both (P5.1).
func TestNamesThatOccurTwice(t *testing.T) {
	count := len(Names(sample()))
	rename := func(n *api.Net, i int, name string) {
		if i < len(n.Places) {
			n.Places[i].Name = name
			return
		}
		n.Trans[i-len(n.Places)].Name = name
	}
	for i := range count {
		for j := range count {
			n := sample()
			rename(&n, i, Names(n)[j])
			want := api.ErrName
			if i == j {
				want = api.OK
			}
			wantCheck(t, fmt.Sprintf("%d named as %d", i, j), n, want)
		}
	}
	wantCheck(t, "two places", api.Net{Places: []api.Place{{Name: "p"}, {Name: "p"}}}, api.ErrName)
	wantCheck(t, "two transitions", api.Net{Trans: []api.Trans{{Name: "p"}, {Name: "p"}}}, api.ErrName)
	wantCheck(t, "one of each", api.Net{Places: []api.Place{{Name: "p"}}, Trans: []api.Trans{{Name: "p"}}}, api.ErrName)
	// The first and the last of as many as there may be.
	n := api.Net{Places: manyPlaces(32), Trans: manyTrans(32)}
	n.Trans[31].Name = n.Places[0].Name
	wantCheck(t, "the first and the last", n, api.ErrName)
	// Names that only begin alike differ.
	n = sample()
	n.Places[0].Name, n.Places[1].Name, n.Trans[0].Name = "a", "a.", "aa"
	wantCheck(t, "names that begin alike", n, api.OK)
}

func TestBoundsOfNumbers(t *testing.T) { // P5.1
	for at := range 3 {
		fields := map[string]func(n *api.Net) *int{
			"Tokens": func(n *api.Net) *int { return &n.Places[at].Tokens },
			"Delay":  func(n *api.Net) *int { return &n.Trans[at].Delay },
			"Prio":   func(n *api.Net) *int { return &n.Trans[at].Prio },
		}
		for name, field := range fields {
			wantBounds(t, fmt.Sprint(name, " of ", at), 0, field)
		}
		for which := range 3 {
			for i := range 3 {
				wantBounds(t, fmt.Sprint("N of ", at, " ", which, " ", i), 1, func(n *api.Net) *int { return &(*list(&n.Trans[at], which))[i].N })
			}
		}
	}
}

// wantBounds: a number of the sample may be from least to MaxNum.
func wantBounds(t *testing.T, what string, least int, field func(n *api.Net) *int) {
	t.Helper()
	for _, x := range []int{math.MinInt, -1000001, -1000000, -2, -1, 0, 1, 2, 999999, 1000000, 1000001, 1000002, 1 << 32, 1 << 40, math.MaxInt} {
		n := sample()
		*field(&n) = x
		want := api.ErrOver
		if least <= x && x <= 1000000 {
			want = api.OK
		}
		wantCheck(t, fmt.Sprint(what, " is ", x), n, want)
	}
}

func TestArcsToPlacesThatDoNotExist(t *testing.T) { // P5.1
	for at := range 3 {
		for which := range 3 {
			for i := range 3 {
				for _, place := range []int{math.MinInt, -2, -1, 4, 5, 32, 1 << 32, math.MaxInt} {
					n := sample()
					(*list(&n.Trans[at], which))[i].Place = place
					wantCheck(t, fmt.Sprintf("place %d in arc %d of list %d of %d", place, i, which, at), n, api.ErrNone)
				}
			}
		}
	}
	n := api.Net{Trans: []api.Trans{{Name: "t", In: arcs(0)}}}
	wantCheck(t, "no places", n, api.ErrNone)
	n = api.Net{Places: manyPlaces(32), Trans: []api.Trans{{Name: "t", In: arcs(31, 0), Not: arcs(31), Out: arcs(31)}}}
	wantCheck(t, "the last of 32 places", n, api.OK)
	n.Trans[0].Out[0].Place = 32
	wantCheck(t, "one beyond the last of 32 places", n, api.ErrNone)
}

func TestPlacesThatOccurTwiceInAList(t *testing.T) { // P5.1
	for at := range 3 {
		for which := range 3 {
			for i := range 3 {
				for j := range 3 {
					if i == j {
						continue
					}
					n := sample()
					l := *list(&n.Trans[at], which)
					l[i].Place = l[j].Place
					wantCheck(t, fmt.Sprintf("arcs %d and %d of list %d of %d", i, j, which, at), n, api.ErrArg)
					l[i].N = l[j].N
					wantCheck(t, fmt.Sprintf("equal arcs %d and %d of list %d of %d", i, j, which, at), n, api.ErrArg)
				}
			}
		}
	}
	// Once in each of several lists a place may be, and in those of several transitions.
	for _, twice := range [][3][]api.Arc{
		{arcs(0), arcs(0), nil}, {arcs(0), nil, arcs(0)}, {nil, arcs(0), arcs(0)}, {arcs(0, 1), arcs(1, 0), arcs(0, 1)},
	} {
		n := api.Net{Places: manyPlaces(2), Trans: manyTrans(2)}
		for i := range n.Trans {
			n.Trans[i].In, n.Trans[i].Not, n.Trans[i].Out = twice[0], twice[1], twice[2]
		}
		wantCheck(t, fmt.Sprint(twice), n, api.OK)
	}
	// The first and the last arc of a full list.
	n := api.Net{Places: manyPlaces(8), Trans: []api.Trans{{Name: "t", Out: manyArcs(8)}}}
	n.Trans[0].Out[7].Place = 0
	wantCheck(t, "the first and the last arc", n, api.ErrArg)
}

// harm is a change of the sample that makes it invalid, and the error.
type harm struct {
	what string
	do   func(n *api.Net)
	want api.Errno
}

// firstHarms are the harms ahead of those of the transitions, in the order in which Check finds them; those of one rank
// have the same error, so that their order is not to be seen.
func firstHarms() [][]harm {
	var long, name, tokens []harm
	add := func(l *[]harm, want api.Errno, what string, do func(n *api.Net)) {
		*l = append(*l, harm{what, do, want})
	}
	add(&long, api.ErrLong, "33 places", func(n *api.Net) { n.Places = append(n.Places, make([]api.Place, 29)...) })
	add(&long, api.ErrLong, "33 transitions", func(n *api.Net) { n.Trans = append(n.Trans, make([]api.Trans, 30)...) })
	for at := range 3 {
		for which := range 3 {
			add(&long, api.ErrLong, fmt.Sprintf("9 arcs in list %d of %d", which, at), func(n *api.Net) {
				l := list(&n.Trans[at], which)
				*l = append(*l, make([]api.Arc, 6)...)
			})
		}
		add(&name, api.ErrName, fmt.Sprintf("no name of place %d", at), func(n *api.Net) { n.Places[at].Name = "P" })
		add(&name, api.ErrName, fmt.Sprintf("no name of transition %d", at), func(n *api.Net) { n.Trans[at].Name = "" })
		add(&name, api.ErrName, fmt.Sprintf("the name of transition %d twice", at), func(n *api.Net) { n.Trans[at].Name = "s" })
		add(&tokens, api.ErrOver, fmt.Sprintf("tokens of place %d", at), func(n *api.Net) { n.Places[at].Tokens = -1 })
	}
	return [][]harm{long, name, tokens}
}

// transHarms are the harms of a transition of the sample, in the order in which Check finds them.
func transHarms(at int) [][]harm {
	ranks := [][]harm{{
		{fmt.Sprintf("delay of %d", at), func(n *api.Net) { n.Trans[at].Delay = 1000001 }, api.ErrOver},
		{fmt.Sprintf("priority of %d", at), func(n *api.Net) { n.Trans[at].Prio = -1 }, api.ErrOver},
	}}
	for which := range 3 {
		for i := range 3 {
			arc := func(n *api.Net) *api.Arc { return &(*list(&n.Trans[at], which))[i] }
			what := fmt.Sprintf(" in arc %d of list %d of %d", i, which, at)
			ranks = append(ranks,
				[]harm{{"number" + what, func(n *api.Net) { arc(n).N = 0 }, api.ErrOver}},
				[]harm{{"no place" + what, func(n *api.Net) { arc(n).Place = -1 - i }, api.ErrNone}})
			if i > 0 {
				ranks = append(ranks, []harm{{"place twice" + what, func(n *api.Net) {
					arc(n).Place = (*list(&n.Trans[at], which))[i-1].Place
				}, api.ErrArg}})
			}
		}
	}
	return ranks
}

// TestFirstOfSeveralErrors does every two harms of different ranks, and wants the error of the earlier one (P5.1). That
// one is done last, so that the other one does not undo it.
func TestFirstOfSeveralErrors(t *testing.T) {
	ranks := firstHarms()
	for at := range 3 {
		ranks = append(ranks, transHarms(at)...)
	}
	for i, first := range ranks {
		for _, a := range first {
			n := sample()
			a.do(&n)
			wantCheck(t, a.what, n, a.want)
			for _, second := range ranks[i+1:] {
				for _, b := range second {
					n := sample()
					b.do(&n)
					a.do(&n)
					wantCheck(t, a.what+" and "+b.what, n, a.want)
				}
			}
		}
	}
}

// TestErrorsAtOneArc: N is looked at first, then whether the place exists, then whether it occurs earlier (P5.1).
func TestErrorsAtOneArc(t *testing.T) {
	for which := range 3 {
		for _, c := range []struct {
			arcs []api.Arc
			want api.Errno
		}{
			{[]api.Arc{{Place: 4, N: 0}}, api.ErrOver},
			{[]api.Arc{{Place: -1, N: 1000001}}, api.ErrOver},
			{[]api.Arc{{Place: 0, N: 1}, {Place: 0, N: 0}}, api.ErrOver},
			{[]api.Arc{{Place: 4, N: 1}, {Place: 4, N: 1}}, api.ErrNone},
			{[]api.Arc{{Place: 4, N: 1}, {Place: 4, N: 0}}, api.ErrNone},
			{[]api.Arc{{Place: -1, N: 1}, {Place: 0, N: -1}}, api.ErrNone},
			{[]api.Arc{{Place: 0, N: 1}, {Place: 0, N: 1}, {Place: 4, N: 1}}, api.ErrArg},
			{[]api.Arc{{Place: 0, N: 1}, {Place: 0, N: 1}, {Place: 1, N: 0}}, api.ErrArg},
			{[]api.Arc{{Place: 0, N: 1}, {Place: 1, N: 0}, {Place: 0, N: 1}}, api.ErrOver},
			{[]api.Arc{{Place: 0, N: 1}, {Place: 4, N: 1}, {Place: 0, N: 1}}, api.ErrNone},
		} {
			n := sample()
			*list(&n.Trans[1], which) = c.arcs
			wantCheck(t, fmt.Sprint(which, c.arcs), n, c.want)
		}
	}
}

// modelCheck is Check by the words of P5.1, sentence by sentence.
func modelCheck(n api.Net) api.Errno {
	long := len(n.Places) > 32 || len(n.Trans) > 32
	names := map[string]int{}
	for _, p := range n.Places {
		names[p.Name]++
	}
	for _, t := range n.Trans {
		names[t.Name]++
		long = long || len(t.In) > 8 || len(t.Not) > 8 || len(t.Out) > 8
	}
	if long {
		return api.ErrLong
	}
	for name, count := range names {
		if count > 1 || !lex.Name(name) {
			return api.ErrName
		}
	}
	for _, p := range n.Places {
		if p.Tokens < 0 || p.Tokens > 1000000 {
			return api.ErrOver
		}
	}
	for _, t := range n.Trans {
		if min(t.Delay, t.Prio) < 0 || max(t.Delay, t.Prio) > 1000000 {
			return api.ErrOver
		}
		for _, l := range [][]api.Arc{t.In, t.Not, t.Out} {
			seen := map[int]int{}
			for _, a := range l {
				if a.N < 1 || a.N > 1000000 {
					return api.ErrOver
				}
				if a.Place < 0 || a.Place > len(n.Places)-1 {
					return api.ErrNone
				}
				if seen[a.Place]++; seen[a.Place] > 1 {
					return api.ErrArg
				}
			}
		}
	}
	return api.OK
}

// TestAgainstModel holds Check against the model for nets with some elements changed by chance (P5.1).
func TestAgainstModel(t *testing.T) {
	r := rand.New(rand.NewSource(5))
	numbers := []int{-1, 0, 1, 2, 3, 4, 1000000, 1000001}
	names := []string{"p", "q", "t", "u", "x", "y", "A", "", "abcdefghijkl", "abcdefghijklm"}
	found := map[api.Errno]int{}
	for range 20000 {
		n := sample()
		numberLeaves, nameLeaves := leaves(&n)
		for range r.Intn(4) {
			numberLeaves[r.Intn(len(numberLeaves))].SetInt(int64(numbers[r.Intn(len(numbers))]))
		}
		if r.Intn(4) == 0 {
			nameLeaves[r.Intn(len(nameLeaves))].SetString(names[r.Intn(len(names))])
		}
		if r.Intn(40) == 0 {
			n.Trans[r.Intn(3)].Not = make([]api.Arc, 7+r.Intn(3))
		}
		want := modelCheck(n)
		found[want]++
		if e := Check(n); e != want {
			t.Fatalf("%v: %d, not %d", n, e, want)
		}
	}
	for _, e := range []api.Errno{api.OK, api.ErrLong, api.ErrName, api.ErrOver, api.ErrNone, api.ErrArg} {
		if found[e] < 20 {
			t.Errorf("error %d came up %d times alone", e, found[e])
		}
	}
}

// leaves are all numbers and all names of a net, wherever they stand, to be changed.
func leaves(n *api.Net) (numbers, names []reflect.Value) {
	var walk func(v reflect.Value)
	walk = func(v reflect.Value) {
		switch v.Kind() {
		case reflect.Struct:
			for i := range v.NumField() {
				walk(v.Field(i))
			}
		case reflect.Slice:
			for i := range v.Len() {
				walk(v.Index(i))
			}
		case reflect.Int:
			numbers = append(numbers, v)
		case reflect.String:
			names = append(names, v)
		}
	}
	walk(reflect.ValueOf(n).Elem())
	return numbers, names
}

// slicesOf are all slices of a net, wherever they stand, to be changed.
func slicesOf(n *api.Net) []reflect.Value {
	l := []reflect.Value{reflect.ValueOf(&n.Places).Elem(), reflect.ValueOf(&n.Trans).Elem()}
	for i := range n.Trans {
		for which := range 3 {
			l = append(l, reflect.ValueOf(list(&n.Trans[i], which)).Elem())
		}
	}
	return l
}

func TestNames(t *testing.T) { // P5.1
	n := sample()
	want := []string{"p", "q", "r.1", "s", "t", "u", "v"}
	l := Names(n)
	if !slices.Equal(l, want) {
		t.Error(l)
	}
	// Names that may not be, or are there twice, are told as they are.
	odd := api.Net{Places: []api.Place{{Name: "B"}, {Name: ""}, {Name: "B"}}, Trans: []api.Trans{{Name: "B"}, {Name: "\xff"}, {Name: "a"}}}
	if l := Names(odd); !slices.Equal(l, []string{"B", "", "B", "B", "\xff", "a"}) {
		t.Errorf("%q", l)
	}
	if l := Names(api.Net{Trans: manyTrans(2)}); !slices.Equal(l, []string{"t0", "t1"}) {
		t.Error(l)
	}
	if l := Names(api.Net{Places: manyPlaces(2)}); !slices.Equal(l, []string{"p0", "p1"}) {
		t.Error(l)
	}
	if l := Names(api.Net{Places: manyPlaces(1000), Trans: manyTrans(1000)}); len(l) != 2000 || l[999] != "p999" || l[1000] != "t0" || l[1999] != "t999" {
		t.Error(len(l))
	}
	// Each answer is a list of its own.
	again := Names(n)
	l[0] = "x"
	_ = append(l[:2], "y")
	if !slices.Equal(again, want) || !slices.Equal(Names(n), want) || !Equal(n, sample()) {
		t.Error("answers share memory")
	}
}

func wantEqual(t *testing.T, what string, a, b api.Net, want bool) {
	t.Helper()
	if Equal(a, b) != want || Equal(b, a) != want {
		t.Errorf("%s: Equal is not %v", what, want)
	}
}

func TestEqual(t *testing.T) { // P5.2
	n := sample()
	wantEqual(t, "sample", n, sample(), true)
	wantEqual(t, "itself", n, n, true)
	wantEqual(t, "sample and nothing", n, api.Net{}, false)
	wantEqual(t, "places alone", n, api.Net{Places: n.Places}, false)
	wantEqual(t, "transitions alone", n, api.Net{Trans: n.Trans}, false)
}

// TestNetsThatDifferInOneElement: a number, a name, or a list that is shorter, longer or in another order (P5.2).
func TestNetsThatDifferInOneElement(t *testing.T) {
	n := sample()
	numbers, names := leaves(&n)
	if len(numbers) != 4+3*(2+9*2) || len(names) != 7 {
		t.Fatal(len(numbers), len(names))
	}
	for i, v := range numbers {
		before := v.Int()
		for _, x := range []int64{before + 1, before - 1, -before - 1, math.MinInt64, math.MaxInt64, before + 1<<32} {
			v.SetInt(x)
			wantEqual(t, fmt.Sprintf("number %d is %d", i, x), n, sample(), false)
		}
		v.SetInt(before)
	}
	for i, v := range names {
		before := v.String()
		for _, s := range []string{before + "a", "", "x", strings.ToUpper(before)} {
			v.SetString(s)
			wantEqual(t, fmt.Sprintf("name %d is %q", i, s), n, sample(), false)
		}
		v.SetString(before)
	}
	for i, v := range slicesOf(&n) {
		whole := reflect.ValueOf(v.Interface())
		for from := range whole.Len() {
			for to := from; to <= whole.Len(); to++ {
				v.Set(whole.Slice(from, to))
				wantEqual(t, fmt.Sprintf("list %d from %d to %d", i, from, to), n, sample(), from == 0 && to == whole.Len())
			}
		}
		v.Set(reflect.Append(whole, reflect.Zero(whole.Type().Elem())))
		wantEqual(t, fmt.Sprintf("list %d with one more", i), n, sample(), false)
		v.Set(whole)
		swap := reflect.Swapper(whole.Interface())
		swap(0, 2)
		wantEqual(t, fmt.Sprintf("list %d in another order", i), n, sample(), false)
		swap(0, 2)
	}
	wantEqual(t, "all put back", n, sample(), true)
}

func TestEqualOfOddNets(t *testing.T) { // P5.2, P1
	// An arc in another list, or of another transition.
	one := func(at, which int) api.Net {
		n := api.Net{Places: manyPlaces(1), Trans: manyTrans(2)}
		*list(&n.Trans[at], which) = arcs(0)
		return n
	}
	for i := range 6 {
		for j := range 6 {
			wantEqual(t, fmt.Sprint(i, j), one(i/3, i%3), one(j/3, j%3), i == j)
		}
	}
	// nil and empty lists are the same.
	empty := api.Net{Places: []api.Place{}, Trans: []api.Trans{{Name: "t", In: []api.Arc{}, Not: []api.Arc{}, Out: []api.Arc{}}}}
	wantEqual(t, "nil and empty", empty, api.Net{Trans: []api.Trans{{Name: "t"}}}, true)
	wantCheck(t, "empty lists", empty, api.OK)
	// Nets that are not valid may be equal, too.
	odd := func() api.Net {
		n := api.Net{Places: make([]api.Place, 1000), Trans: make([]api.Trans, 1000)}
		n.Places[999] = api.Place{Name: "\xff", Tokens: math.MinInt}
		n.Trans[999] = api.Trans{Name: "A", Delay: -1, Prio: math.MaxInt, In: arcs(-1, -1, 9999)}
		return n
	}
	n := odd()
	wantEqual(t, "nets that are not valid", n, odd(), true)
	n.Trans[999].In[2].N++
	wantEqual(t, "nets that are not valid and differ", n, odd(), false)
}

func TestPlaceAndTrans(t *testing.T) { // P5.2
	n := sample()
	for i, p := range n.Places {
		if Place(n, p.Name) != i || Trans(n, p.Name) != -1 {
			t.Error(p.Name, Place(n, p.Name), Trans(n, p.Name))
		}
	}
	for i, x := range n.Trans {
		if Trans(n, x.Name) != i || Place(n, x.Name) != -1 {
			t.Error(x.Name, Trans(n, x.Name), Place(n, x.Name))
		}
	}
	for _, name := range []string{"", "r", "r.", "r.11", "P", " p", "p ", "x", "\xff", strings.Repeat("p", 1<<20)} {
		if Place(n, name) != -1 || Trans(n, name) != -1 {
			t.Errorf("%.20q is there", name)
		}
	}
}

// TestNamesThatAreThereTwice: the lowest number counts; places and transitions are looked up apart (P5.2).
func TestNamesThatAreThereTwice(t *testing.T) {
	n := api.Net{
		Places: []api.Place{{Name: "a"}, {Name: "b"}, {Name: "a"}, {Name: "c"}, {Name: "b"}, {Name: ""}, {Name: ""}},
		Trans:  []api.Trans{{Name: "c"}, {Name: "\xff"}, {Name: "b"}, {Name: "c"}, {Name: "b"}, {Name: "A"}, {Name: "\xff"}},
	}
	for name, want := range map[string][2]int{
		"a": {0, -1}, "b": {1, 2}, "c": {3, 0}, "": {5, -1}, "A": {-1, 5}, "\xff": {-1, 1}, "\ufffd": {-1, -1}, "\xfe": {-1, -1}, "d": {-1, -1},
	} {
		if got := [2]int{Place(n, name), Trans(n, name)}; got != want {
			t.Errorf("%q: %v, not %v", name, got, want)
		}
	}
}

func TestCopy(t *testing.T) { // P5.2
	n := sample()
	c := Copy(n)
	wantEqual(t, "copy", c, n, true)
	if !reflect.DeepEqual(c, sample()) || !reflect.DeepEqual(n, sample()) {
		t.Error(c, n)
	}
	wantEqual(t, "copy of one with nil and empty lists", Copy(api.Net{Trans: []api.Trans{{In: []api.Arc{}}}}), api.Net{Trans: make([]api.Trans, 1)}, true)
	odd := api.Net{Places: make([]api.Place, 1000), Trans: []api.Trans{{Name: "A", Delay: math.MinInt, In: arcs(-1, -1, 9999)}}}
	wantEqual(t, "copy of one that is not valid", Copy(odd), odd, true)
}

// TestCopyThatIsChanged: no change of a copy is to be seen in the net, and none of the net in a copy (P5.2).
func TestCopyThatIsChanged(t *testing.T) {
	change := func(n *api.Net) {
		numbers, names := leaves(n)
		for _, v := range numbers {
			v.SetInt(-7)
		}
		for _, v := range names {
			v.SetString("X")
		}
		// The last ones first, as the lists of a transition go with it.
		for _, v := range slices.Backward(slicesOf(n)) {
			v.Set(reflect.Append(v.Slice(0, 1), reflect.Zero(v.Type().Elem())))
		}
	}
	n := sample()
	c := Copy(n)
	change(&c)
	wantEqual(t, "the net, after a change of its copy", n, sample(), true)
	n = sample()
	c = Copy(n)
	change(&n)
	wantEqual(t, "the copy, after a change of the net", c, sample(), true)
	a, b := Copy(c), Copy(c)
	change(&a)
	wantEqual(t, "another copy", b, sample(), true)
}

// TestCopyOfSharedLists: lists that share memory in a net share none in its copy, nor what lies behind them (P5.2).
func TestCopyOfSharedLists(t *testing.T) {
	all := arcs(0, 1, 2, 3)
	places := sample().Places
	n := api.Net{Places: places[:2], Trans: []api.Trans{{Name: "t", In: all[:2], Not: all[:3], Out: all[1:]}, {Name: "u", In: all[:0], Not: all[:2], Out: all}}}
	want := api.Net{Places: sample().Places[:2], Trans: []api.Trans{
		{Name: "t", In: arcs(0, 1), Not: arcs(0, 1, 2), Out: arcs(0, 1, 2, 3)[1:]}, {Name: "u", Not: arcs(0, 1), Out: arcs(0, 1, 2, 3)},
	}}
	wantEqual(t, "the net", n, want, true)
	for i := range n.Trans {
		for which := range 3 {
			c := Copy(n)
			l := list(&c.Trans[i], which)
			before := slices.Clone(*l)
			for j := range *l {
				(*l)[j] = api.Arc{Place: 99, N: 99}
			}
			_ = append(*l, api.Arc{Place: 77, N: 77})
			*l = before
			wantEqual(t, fmt.Sprintf("the copy, beside list %d of %d", which, i), c, want, true)
			wantEqual(t, "the net", n, want, true)
		}
	}
	c := Copy(n)
	_ = append(c.Places, api.Place{Name: "x"})
	if !slices.Equal(all, arcs(0, 1, 2, 3)) || !slices.Equal(places, sample().Places) {
		t.Error("what lies behind a list was changed")
	}
}

// TestNothingIsChanged: no call changes its arguments, and a second call tells the same (P2 and the rule of memory).
func TestNothingIsChanged(t *testing.T) {
	bad := sample()
	bad.Trans[2].Out[2].Place = 3
	for _, made := range []func() api.Net{sample, func() api.Net { return Copy(bad) }, func() api.Net { return api.Net{Places: manyPlaces(40), Trans: manyTrans(40)} }} {
		n := made()
		for range 2 {
			if Check(n) != Check(made()) || !slices.Equal(Names(n), Names(made())) || !Equal(n, made()) || Place(n, "r.1") != Place(made(), "r.1") || Trans(n, "u") != Trans(made(), "u") {
				t.Error("another answer")
			}
			_ = Copy(n)
			if !reflect.DeepEqual(n, made()) {
				t.Error("the net was changed")
			}
		}
	}
	wantCheck(t, "bad", bad, api.ErrArg)
}
