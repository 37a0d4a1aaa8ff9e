package plain

import (
	"cmp"
	"fmt"
	"maps"
	"math"
	"math/rand"
	"slices"
	"strings"
	"testing"

	"marblerun/api"
	"marblerun/mark"
	"marblerun/net"
	"marblerun/parse"
	"marblerun/print"
)

// netOf is the net of a text.
func netOf(t *testing.T, text string) api.Net {
	t.Helper()
	n, f := parse.Net([]byte(text))
	if f != (api.Fault{}) {
		t.Fatalf("%q: %v", text, f)
	}
	return n
}

// show is a result as text: the firings as time:name, then Marks, Way and Time, with bars between.
func show(n api.Net, r api.Result) string {
	var b strings.Builder
	for _, f := range r.Log {
		fmt.Fprintf(&b, "%d:%s ", f.Time, n.Trans[f.Trans].Name)
	}
	list := func(l []int) string { return strings.Trim(fmt.Sprint(l), "[]") }
	return fmt.Sprint(b.String(), "| ", list(r.Marks), " | ", list(r.Way), " | ", r.Time)
}

// times are so many firings of one transition at one time, as show tells them.
func times(count, time int, name string) string {
	return strings.Repeat(fmt.Sprint(time, ":", name, " "), count)
}

// equal reports whether two results are equal in all they hold.
func equal(a, b api.Result) bool {
	return slices.Equal(a.Log, b.Log) && slices.Equal(a.Marks, b.Marks) && slices.Equal(a.Way, b.Way) && a.Time == b.Time
}

// wantRun: what the net of a text comes to (P9.1, P9.2). It comes to the same once more, and read back from its text, and
// stays as it was (P2, P5 and the rule of memory).
func wantRun(t *testing.T, text string, horizon int, want string, wantError api.Errno) {
	t.Helper()
	n := netOf(t, text)
	r, e := Run(n, horizon)
	if got := show(n, r); got != want || e != wantError {
		t.Errorf("%s up to %d:\n%s, %d, not\n%s, %d", text, horizon, got, e, want, wantError)
	}
	wantSame(t, n, horizon, r, e)
	wantAccount(t, n, r)
}

// wantSame: a net comes to what it has come to before, also read back from its text, and stays as it was (P2, P5 and the
// rule of memory).
func wantSame(t *testing.T, n api.Net, horizon int, r api.Result, e api.Errno) {
	t.Helper()
	before := net.Copy(n)
	if again, f := Run(n, horizon); f != e || !equal(again, r) {
		t.Errorf("%v up to %d: once more %v %d, not %v %d", n, horizon, again, f, r, e)
	}
	if !net.Equal(n, before) {
		t.Errorf("%v was changed to %v", before, n)
	}
	text, _ := print.Text(n)
	if back, f := Run(netOf(t, string(text)), horizon); f != e || !equal(back, r) {
		t.Errorf("%v up to %d: read back %v %d, not %v %d", n, horizon, back, f, r, e)
	}
}

// wantAccount: what a place has and what is on its way to it is what it had at first, less what the firings took, and what
// they gave (P9.1, P9.2).
func wantAccount(t *testing.T, n api.Net, r api.Result) {
	t.Helper()
	all := mark.First(n)
	for _, f := range r.Log {
		for _, a := range n.Trans[f.Trans].In {
			all[a.Place] -= a.N
		}
		for _, a := range n.Trans[f.Trans].Out {
			all[a.Place] += a.N
		}
	}
	if len(r.Marks) != len(all) || len(r.Way) != len(all) {
		t.Fatalf("%d places: %v %v", len(all), r.Marks, r.Way)
	}
	for i := range all {
		if r.Marks[i]+r.Way[i] != all[i] || r.Marks[i] < 0 || r.Way[i] < 0 {
			t.Errorf("%v: place %d has %d, and %d on their way, of %d", n, i, r.Marks[i], r.Way[i], all[i])
		}
	}
}

func TestExamples(t *testing.T) { // P9.1, P9.2
	const text = "place p = 1; trans t @2: p -> p;"
	wantRun(t, text, 5, "0:t 2:t 4:t | 0 | 1 | 4", api.OK)
	wantRun(t, text, 4, "0:t 2:t 4:t | 0 | 1 | 4", api.OK)
	wantRun(t, text, 3, "0:t 2:t | 0 | 1 | 2", api.OK)
}

// filled is a net of so many places without tokens, and so many transitions that take one from the first place.
func filled(places, trans int) api.Net {
	var n api.Net
	for i := range places {
		n.Places = append(n.Places, api.Place{Name: fmt.Sprint("p", i)})
	}
	for i := range trans {
		n.Trans = append(n.Trans, api.Trans{Name: fmt.Sprint("t", i), In: []api.Arc{{Place: 0, N: 1}}})
	}
	return n
}

// arcs are count arcs of n tokens, from the place first on, in a circle of all places.
func arcs(first, count, places, n int) []api.Arc {
	var l []api.Arc
	for i := range count {
		l = append(l, api.Arc{Place: (first + i) % places, N: n})
	}
	return l
}

// refused are nets that are not valid, each with its error.
func refused() map[api.Errno][]api.Net {
	l := map[api.Errno][]api.Net{
		api.ErrLong: {filled(api.MaxPlaces+1, 0), filled(1, api.MaxTrans+1), filled(api.MaxPlaces+1, api.MaxTrans+1)},
	}
	add := func(e api.Errno, change func(n *api.Net)) {
		n := filled(10, 2)
		change(&n)
		l[e] = append(l[e], n)
	}
	for _, name := range []string{"", "p 1", "0", "abcdefghijklm", "p0", "t0"} {
		add(api.ErrName, func(n *api.Net) { n.Places[9].Name = name })
		add(api.ErrName, func(n *api.Net) { n.Trans[1].Name = name })
	}
	for _, x := range []int{math.MinInt, -1, api.MaxNum + 1, math.MaxInt} {
		add(api.ErrOver, func(n *api.Net) { n.Places[9].Tokens = x })
		add(api.ErrOver, func(n *api.Net) { n.Trans[1].Delay = x })
		add(api.ErrOver, func(n *api.Net) { n.Trans[1].Prio = x })
	}
	for which := range 3 {
		addArcs := func(e api.Errno, list ...api.Arc) {
			add(e, func(n *api.Net) {
				tr := &n.Trans[1]
				*[]*[]api.Arc{&tr.In, &tr.Not, &tr.Out}[which] = list
			})
		}
		addArcs(api.ErrLong, arcs(0, api.MaxArcs+1, 10, 1)...)
		for _, x := range []int{math.MinInt, -1, 0, api.MaxNum + 1, math.MaxInt} {
			addArcs(api.ErrOver, api.Arc{Place: 2, N: x})
		}
		for _, x := range []int{math.MinInt, -1, 10, math.MaxInt} {
			addArcs(api.ErrNone, api.Arc{Place: x, N: 1})
		}
		addArcs(api.ErrArg, api.Arc{Place: 2, N: 1}, api.Arc{Place: 3, N: 1}, api.Arc{Place: 2, N: 2})
	}
	return l
}

// TestRefused: the error is that of net.Check, whatever the horizon, and all else is its zero value (P9.1, P9.2, P1).
func TestRefused(t *testing.T) {
	all := refused()
	for _, want := range []api.Errno{api.ErrLong, api.ErrName, api.ErrOver, api.ErrNone, api.ErrArg} {
		if len(all[want]) < 3 {
			t.Errorf("error %d: %d nets alone", want, len(all[want]))
		}
		for _, n := range all[want] {
			before := net.Copy(n)
			for _, horizon := range []int{math.MinInt, -1, 0, 1, math.MaxInt} {
				r, e := Run(n, horizon)
				if e != want || net.Check(n) != want || !equal(r, api.Result{}) {
					t.Errorf("%v up to %d: %v %d, not %d (net.Check: %d)", n, horizon, r, e, want, net.Check(n))
				}
			}
			if !net.Equal(n, before) {
				t.Errorf("%v was changed to %v", before, n)
			}
		}
	}
}

// TestRefusedAheadOfAll: a net that is not valid does not run, even if it would come to another error (P9.1).
func TestRefusedAheadOfAll(t *testing.T) {
	n := api.Net{Trans: []api.Trans{{Name: "t"}, {Name: "t"}}}
	if r, e := Run(n, 5); e != api.ErrName || !equal(r, api.Result{}) {
		t.Errorf("%v %d", r, e)
	}
	n.Trans[1].Name = "u"
	if r, e := Run(n, 5); e != api.ErrInstant || len(r.Log) != api.MaxInstant {
		t.Errorf("%v %d", r, e)
	}
}

// TestAsMuchAsMayBe: as many places, transitions and arcs, and as great numbers, as a net may have (P9.1, P9.2).
func TestAsMuchAsMayBe(t *testing.T) {
	n := filled(api.MaxPlaces, api.MaxTrans)
	for i := range n.Trans {
		n.Places[i].Tokens = api.MaxNum
		n.Trans[i].Delay, n.Trans[i].Prio = api.MaxNum, api.MaxNum
		n.Trans[i].In = arcs(i, 1, api.MaxPlaces, api.MaxNum)
		n.Trans[i].Out = arcs(i, api.MaxArcs, api.MaxPlaces, api.MaxNum)
	}
	// Each fires once for each million that its place has; each place gets one of each of eight transitions.
	want := func(horizon, each, marks, way, time int, wantError api.Errno) {
		t.Helper()
		r, e := Run(n, horizon)
		if e != wantError || len(r.Log) != each || r.Time != time {
			t.Errorf("up to %d: %d firings, at last at %d, %d", horizon, len(r.Log), r.Time, e)
		}
		wantAll := func(l []int, x int) {
			if !slices.Equal(l[1:], slices.Repeat([]int{x}, api.MaxPlaces)[1:]) {
				t.Errorf("up to %d: %v, not %d each", horizon, l, x)
			}
		}
		if wantError == api.OK {
			wantAll(r.Marks, marks)
			wantAll(r.Way, way)
		}
		wantSame(t, n, horizon, r, e)
		wantAccount(t, n, r)
	}
	want(0, 32, 0, 8*api.MaxNum, 0, api.OK)
	want(api.MaxNum-1, 32, 0, 8*api.MaxNum, 0, api.OK)
	want(api.MaxNum, 32+256, 0, 64*api.MaxNum, api.MaxNum, api.OK)
	want(2*api.MaxNum-1, 32+256, 0, 64*api.MaxNum, api.MaxNum, api.OK)
	want(2*api.MaxNum, 32+256+20, 0, 0, 2*api.MaxNum, api.ErrInstant)
}

func TestWithoutPlacesOrTransitions(t *testing.T) { // P9.1, P9.2
	for _, horizon := range []int{math.MinInt, -1, 0, 1, math.MaxInt} {
		for _, n := range []api.Net{{}, {Places: []api.Place{}, Trans: []api.Trans{}}} {
			if r, e := Run(n, horizon); e != api.OK || !equal(r, api.Result{}) {
				t.Errorf("nothing: %v %d", r, e)
			}
		}
		wantRun(t, "", horizon, "|  |  | 0", api.OK)
		wantRun(t, "place p = 3; place q; place r = 1000000;", horizon, "| 3 0 1000000 | 0 0 0 | 0", api.OK)
	}
	wantRun(t, "trans t: ->; trans u @1: ->;", -1, "|  |  | 0", api.OK)
	wantRun(t, "trans t: ->; trans u @1: ->;", 0, times(20, 0, "t")+"|  |  | 0", api.ErrInstant)
	wantRun(t, "trans t !1: ->; trans u @1: ->;", 7, times(20, 0, "u")+"|  |  | 0", api.ErrInstant)
}

// TestHorizon: below 0 nothing happens; at the horizon all still does, and nothing behind it (P9.1, P9.2).
func TestHorizon(t *testing.T) {
	const text = "place p = 1; place q; trans t @5: p -> q; trans u: q ->;"
	for _, horizon := range []int{math.MinInt, math.MinInt + 1, -1000000, -5, -2, -1} {
		wantRun(t, text, horizon, "| 1 0 | 0 0 | 0", api.OK)
		wantRun(t, "place p = 7; trans t: ->; trans u: p -> p*1000000;", horizon, "| 7 | 0 | 0", api.OK)
	}
	for _, horizon := range []int{0, 1, 3, 4} {
		wantRun(t, text, horizon, "0:t | 0 0 | 0 1 | 0", api.OK)
	}
	for _, horizon := range []int{5, 6, 7, 1000000, api.MaxTime, api.MaxTime + 1, math.MaxInt - 1, math.MaxInt} {
		wantRun(t, text, horizon, "0:t 5:u | 0 0 | 0 0 | 5", api.OK)
	}
	// An error behind the horizon is none.
	wantRun(t, "place p = 20; trans t @3: p -> p*2;", 2, times(20, 0, "t")+"| 0 | 40 | 0", api.OK)
	wantRun(t, "place p = 20; trans t @3: p -> p*2;", 3, times(20, 0, "t")+times(20, 3, "t")+"| 20 | 40 | 3", api.ErrInstant)
}

// TestTime: the last time that was reached: one at which tokens arrive, also if nothing fires then (P9.1, P9.2).
func TestTime(t *testing.T) {
	const text = "place p = 1; place q; trans t @5: p -> q;"
	wantRun(t, text, 4, "0:t | 0 0 | 0 1 | 0", api.OK)
	wantRun(t, text, 5, "0:t | 0 1 | 0 0 | 5", api.OK)
	wantRun(t, text, 100, "0:t | 0 1 | 0 0 | 5", api.OK)
	wantRun(t, "place p = 4;", 100, "| 4 | 0 | 0", api.OK)
	// What gives no tokens leads to no time.
	wantRun(t, "place p = 2; trans t @5: p ->;", 100, "0:t 0:t | 0 | 0 | 0", api.OK)
	wantRun(t, "place p = 2; place q = 1; trans t @5: p ->; trans u @9: q -> q;", 20, "0:t 0:t 0:u 9:u 18:u | 0 0 | 0 1 | 18", api.OK)
}

// TestDelays: without a delay tokens are there at the same time, and otherwise so much later (P9.1, P9.2).
func TestDelays(t *testing.T) {
	wantRun(t, "place p = 1; place q; trans t: p -> q; trans u: q ->;", 0, "0:t 0:u | 0 0 | 0 0 | 0", api.OK)
	for _, delay := range []int{1, 2, 3, 7, 100, api.MaxNum - 1, api.MaxNum} {
		text := fmt.Sprintf("place p = 1; place q; trans t @%d: p -> q; trans u @%d: q -> p;", delay, delay)
		wantRun(t, text, delay-1, "0:t | 0 0 | 0 1 | 0", api.OK)
		wantRun(t, text, delay, fmt.Sprintf("0:t %d:u | 0 0 | 1 0 | %d", delay, delay), api.OK)
		wantRun(t, text, 2*delay, fmt.Sprintf("0:t %d:u %d:t | 0 0 | 0 1 | %d", delay, 2*delay, 2*delay), api.OK)
	}
	// Each token has the delay of its transition, so that a later one may be there sooner.
	const text = "place p = 1; place q; place r; place s; trans t @9: p -> r, q; trans u @2: q -> s; trans v @1: s -> s;"
	wantRun(t, text, 13, "0:t 9:u 11:v 12:v 13:v | 0 0 1 0 | 0 0 0 1 | 13", api.OK)
	wantRun(t, "place p = 1; place q = 1; place r; trans t @9: p -> r; trans u @4: q -> r; trans v: r ->;", 9, "0:t 0:u 4:v 9:v | 0 0 0 | 0 0 0 | 9", api.OK)
}

// TestAtOnce: without a delay tokens are there for the next firing; with one not, and not for the lists Not either (P9.1).
func TestAtOnce(t *testing.T) {
	wantRun(t, "place p = 2; place q; trans t !1: p -> q; trans u: q ->;", 9, "0:t 0:u 0:t 0:u | 0 0 | 0 0 | 0", api.OK)
	wantRun(t, "place p = 2; place q; trans t @1 !1: p -> q; trans u: q ->;", 9, "0:t 0:t 1:u 1:u | 0 0 | 0 0 | 1", api.OK)
	wantRun(t, "place p = 3; place q; trans t: p, ~q*2 -> q;", 9, "0:t 0:t | 1 2 | 0 0 | 0", api.OK)
	wantRun(t, "place p = 3; place q; trans t @1: p, ~q*2 -> q;", 9, "0:t 0:t 0:t | 0 3 | 0 0 | 1", api.OK)
	// What a firing takes is gone at once, whatever its delay.
	wantRun(t, "place p = 3; trans t @4: p*2 -> p*2; trans u @4: p -> p;", 3, "0:t 0:u | 0 | 3 | 0", api.OK)
	wantRun(t, "place p = 3; place q; trans t @4: p -> q; trans u !1: p*3 ->;", 3, "0:t 0:t 0:t | 0 0 | 0 3 | 0", api.OK)
}

// TestTakesNothing: one that takes nothing is stopped by its list Not alone; one that asks nothing by its list In (P9.1).
func TestTakesNothing(t *testing.T) {
	wantRun(t, "place p; trans t: ~p*3 -> p;", 9, "0:t 0:t 0:t | 3 | 0 | 0", api.OK)
	wantRun(t, "place p; trans t: ~p*3 -> p*2;", 9, "0:t 0:t | 4 | 0 | 0", api.OK)
	wantRun(t, "place p; trans t: -> p;", 9, times(20, 0, "t")+"| 20 | 0 | 0", api.ErrInstant)
	wantRun(t, "place p; trans t @3: -> p*5;", 9, times(20, 0, "t")+"| 0 | 100 | 0", api.ErrInstant)
	wantRun(t, "place p; trans t @3: ~p -> p;", 9, times(20, 0, "t")+"| 0 | 20 | 0", api.ErrInstant)
	wantRun(t, "place p = 3; trans t: p ->;", 9, "0:t 0:t 0:t | 0 | 0 | 0", api.OK)
	wantRun(t, "place p = 5; trans t: p*2 ->;", 9, "0:t 0:t | 1 | 0 | 0", api.OK)
	wantRun(t, "place p = 1; trans t: p*2 ->; trans u: ~p ->;", 9, "| 1 | 0 | 0", api.OK)
}

// TestPriorities: of those enabled the one of the lowest priority fires, and of equal ones the first (P9.1).
func TestPriorities(t *testing.T) {
	wantRun(t, "place p = 3; trans t !2: p ->; trans u !1: p ->;", 9, "0:u 0:u 0:u | 0 | 0 | 0", api.OK)
	wantRun(t, "place p = 3; trans t !1: p ->; trans u !2: p ->;", 9, "0:t 0:t 0:t | 0 | 0 | 0", api.OK)
	wantRun(t, "place p = 3; trans t !2: p ->; trans u !2: p ->;", 9, "0:t 0:t 0:t | 0 | 0 | 0", api.OK)
	wantRun(t, "place p = 2; place q = 1; trans t !2: p ->; trans u !1: p, q ->;", 9, "0:u 0:t | 0 0 | 0 0 | 0", api.OK)
	wantRun(t, "place p = 2; place q = 1; trans t: p ->; trans u: p, q ->;", 9, "0:t 0:t | 0 1 | 0 0 | 0", api.OK)
	wantRun(t, "place p = 1; place q = 1; place r = 1; trans t !1000000: p ->; trans u !999999: q ->; trans v: r ->;", 9,
		"0:v 0:u 0:t | 0 0 0 | 0 0 0 | 0", api.OK)
	// A firing may enable one that is ahead of it, and disable one behind it.
	wantRun(t, "place p = 2; place q; place r = 2; trans t !1: p -> q; trans u !2: r, ~q*2 ->; trans v: q*2 -> r;", 9,
		"0:t 0:t 0:v 0:u 0:u 0:u | 0 0 0 | 0 0 0 | 0", api.OK)
	// Priorities count at each time; a time ahead comes first, whatever the priority.
	wantRun(t, "place p = 1; place q = 1; trans t @1 !9: p -> p; trans u @2 !3: q -> q;", 4,
		"0:u 0:t 1:t 2:u 2:t 3:t 4:u 4:t | 0 0 | 1 1 | 4", api.OK)
}

// TestArrivalsTogether: all tokens of one time are there ahead of what fires then, from whatever firings (P9.1, P9.2).
func TestArrivalsTogether(t *testing.T) {
	const one = "place a = 1; place b = 1; place p; place q; trans t @3: a -> p; trans u @3: b -> q; "
	wantRun(t, one+"trans v !1: p, q ->; trans w: p, ~q ->; trans x: q, ~p ->;", 3, "0:t 0:u 3:v | 0 0 0 0 | 0 0 0 0 | 3", api.OK)
	wantRun(t, one+"trans v: p, q ->; trans w !1: p ->; trans x !1: q ->;", 3, "0:t 0:u 3:v | 0 0 0 0 | 0 0 0 0 | 3", api.OK)
	wantRun(t, one+"trans v !1: p ->; trans w: q ->;", 3, "0:t 0:u 3:w 3:v | 0 0 0 0 | 0 0 0 0 | 3", api.OK)
	const two = "place a = 1; place b = 1; place c; place p; place q; trans t @3: a -> p; trans s @2: b -> c; trans u @1: c -> q; "
	wantRun(t, two+"trans v !1: p, q ->; trans w: p, ~q ->; trans x: q, ~p ->;", 3, "0:t 0:s 2:u 3:v | 0 0 0 0 0 | 0 0 0 0 0 | 3", api.OK)
	const three = "place a = 1; place b = 1; place c = 2; place p; trans t @3: a -> p*2; trans u @3: b -> p*3; trans v @3: c -> p*10; "
	wantRun(t, three+"trans w: p*25 ->; trans x !1: p ->;", 2, "0:t 0:u 0:v 0:v | 0 0 0 0 | 0 0 0 25 | 0", api.OK)
	wantRun(t, three+"trans w: p*25 ->; trans x !1: p ->;", 3, "0:t 0:u 0:v 0:v 3:w | 0 0 0 0 | 0 0 0 0 | 3", api.OK)
	// What arrives a time later is not there yet.
	const apart = "place a = 1; place b = 1; place p; place q; trans t @3: a -> p; trans u @4: b -> q; "
	wantRun(t, apart+"trans v: p, q ->; trans w !1: p ->; trans x !1: q ->;", 4, "0:t 0:u 3:w 4:x | 0 0 0 0 | 0 0 0 0 | 4", api.OK)
}

func TestWay(t *testing.T) { // P9.2
	const text = "place p = 2; place q; place r; trans t @1: p -> q*2, r; trans u @4: q -> r*10;"
	wantRun(t, text, 0, "0:t 0:t | 0 0 0 | 0 4 2 | 0", api.OK)
	wantRun(t, text, 1, "0:t 0:t 1:u 1:u 1:u 1:u | 0 0 2 | 0 0 40 | 1", api.OK)
	wantRun(t, text, 4, "0:t 0:t 1:u 1:u 1:u 1:u | 0 0 2 | 0 0 40 | 1", api.OK)
	wantRun(t, text, 5, "0:t 0:t 1:u 1:u 1:u 1:u | 0 0 42 | 0 0 0 | 5", api.OK)
	// Tokens of several times are on their way to one place.
	const more = "place c = 1; place g; place p; trans t @1: c -> c, g; trans u @10: g -> p*3;"
	wantRun(t, more, 3, "0:t 1:t 1:u 2:t 2:u 3:t 3:u | 0 0 0 | 1 1 9 | 3", api.OK)
	// A transition may give to a place that it takes from and asks.
	wantRun(t, "place p = 3; trans t @2: p*2, ~p*4 -> p*3;", 9, "0:t | 4 | 0 | 2", api.OK)
}

// TestMaxInstant: one transition may fire twenty times at one time, at each time anew (P9.1, P9.2).
func TestMaxInstant(t *testing.T) {
	wantRun(t, "place p = 19; trans t: p ->;", 9, times(19, 0, "t")+"| 0 | 0 | 0", api.OK)
	wantRun(t, "place p = 20; trans t: p ->;", 9, times(20, 0, "t")+"| 0 | 0 | 0", api.OK)
	wantRun(t, "place p = 21; trans t: p ->;", 9, times(20, 0, "t")+"| 1 | 0 | 0", api.ErrInstant)
	wantRun(t, "place p = 21; trans t @1: p -> p;", 9, times(20, 0, "t")+"| 1 | 20 | 0", api.ErrInstant)
	both := times(20, 0, "t") + times(20, 0, "u")
	wantRun(t, "place p = 20; place q = 20; trans t: p ->; trans u: q ->;", 9, both+"| 0 0 | 0 0 | 0", api.OK)
	wantRun(t, "place p = 20; place q = 21; trans t: p ->; trans u: q ->;", 9, both+"| 0 1 | 0 0 | 0", api.ErrInstant)
	wantRun(t, "place p = 20; trans t @1: p -> p;", 2, times(20, 0, "t")+times(20, 1, "t")+times(20, 2, "t")+"| 0 | 20 | 2", api.OK)
	const late = "place p = 20; place q = 1; trans t @1: p -> p; trans u @1: q -> p;"
	wantRun(t, late, 0, times(20, 0, "t")+"0:u | 0 0 | 21 0 | 0", api.OK)
	wantRun(t, late, 1, times(20, 0, "t")+"0:u "+times(20, 1, "t")+"| 1 0 | 20 0 | 1", api.ErrInstant)
	// It is an error as soon as the one that has fired so often is the best, but not as long as another one is.
	wantRun(t, "place p = 21; trans t: p ->; trans u !1: p ->;", 9, times(20, 0, "t")+"| 1 | 0 | 0", api.ErrInstant)
	wantRun(t, "place p = 21; place q; trans t !1: p -> q; trans u: q*20 ->;", 9, times(20, 0, "t")+"0:u | 1 0 | 0 0 | 0", api.ErrInstant)
	wantRun(t, "place p = 21; place q; trans t !1: p -> q; trans u: q*20, p ->;", 9, times(20, 0, "t")+"0:u | 0 0 | 0 0 | 0", api.OK)
	// Firings of others between do not make it less.
	turns := strings.Repeat("0:t 0:u ", 20)
	wantRun(t, "place p = 1; place q; trans t: p -> q; trans u: q -> p;", 9, turns+"| 1 0 | 0 0 | 0", api.ErrInstant)
	wantRun(t, "place p = 1; place q; place k = 20; trans t: p, k -> q; trans u: q -> p;", 9, turns+"| 1 0 0 | 0 0 0 | 0", api.OK)
}

// TestMaxFires: a run may have two thousand firings (P9.1, P9.2).
func TestMaxFires(t *testing.T) {
	var one, twenty, nineteen strings.Builder
	for i := range 2000 {
		one.WriteString(times(1, i, "t"))
		twenty.WriteString(times(1, i/20, "t"))
		nineteen.WriteString(times(1, i/19, "t"))
	}
	const text = "place p = 1; trans t @1: p -> p;"
	wantRun(t, text, 1999, one.String()+"| 0 | 1 | 1999", api.OK)
	wantRun(t, text, 2000, one.String()+"| 1 | 0 | 2000", api.ErrLong)
	wantRun(t, text, math.MaxInt, one.String()+"| 1 | 0 | 2000", api.ErrLong)
	wantRun(t, "place p = 20; trans t @1: p -> p;", 99, twenty.String()+"| 0 | 20 | 99", api.OK)
	wantRun(t, "place p = 20; trans t @1: p -> p;", 100, twenty.String()+"| 20 | 0 | 100", api.ErrLong)
	// 105 times nineteen, and five more.
	wantRun(t, "place p = 19; trans t @1: p -> p;", 200, nineteen.String()+"| 14 | 5 | 105", api.ErrLong)
	// It is none, if nothing would fire any more.
	wantRun(t, "place p = 1; place k = 2000; trans t @1: p, k -> p;", math.MaxInt, one.String()+"| 1 0 | 0 0 | 2000", api.OK)
	wantRun(t, "place p = 1; place k = 2001; trans t @1: p, k -> p;", math.MaxInt, one.String()+"| 1 1 | 0 0 | 2000", api.ErrLong)
}

// TestMaxInstantAndMaxFires: if a firing is one too many at its time and in all, that is ErrInstant (P9.1, P9.2).
func TestMaxInstantAndMaxFires(t *testing.T) {
	// Ahead of t at time 50 there are 51 times 38 firings of x and y, 40 of v and w, one of b, and those of z.
	const text = "place x0 = 19; trans x @1: x0 -> x0; place y0 = 19; trans y @1: y0 -> y0; place v0 = 20; trans v: v0 ->; " +
		"place w0 = 20; trans w: w0 ->; place c = 1; place a; trans b @50: c -> a*21; trans t !1: a ->; trans z: z0 ->; place z0 = "
	for _, c := range []struct {
		z, firings, left int
		want             api.Errno
	}{
		{0, 1999, 1, api.ErrInstant}, {1, 2000, 1, api.ErrInstant}, {2, 2000, 2, api.ErrLong}, {3, 2000, 3, api.ErrLong},
	} {
		n := netOf(t, fmt.Sprint(text, c.z, ";"))
		r, e := Run(n, 60)
		if e != c.want || len(r.Log) != c.firings || r.Marks[net.Place(n, "a")] != c.left || r.Time != 50 {
			t.Errorf("%d of z: %d firings, %v at %d, %d", c.z, len(r.Log), r.Marks, r.Time, e)
		}
		wantSame(t, n, 60, r, e)
		wantAccount(t, n, r)
		if r, e := Run(n, 49); e != api.OK || r.Time != 49 {
			t.Errorf("%d of z, ahead of the burst: at %d, %d", c.z, r.Time, e)
		}
	}
}

// A run reaches neither MaxTokens nor MaxTime by Run alone: MaxFires firings of MaxNum tokens each, or of a delay of MaxNum
// each, are too few. So the tests of these begin within a run.

const (
	most = api.MaxTokens
	last = api.MaxTime
)

// begun is a run with these marks and tokens in transit.
func begun(n api.Net, marks []int, transit []api.Event) *run {
	return &run{net: n, marks: slices.Clone(marks), transit: slices.Clone(transit)}
}

// wantFrom: what a run comes to that begins with these marks and tokens in transit (P9.1, P9.2).
func wantFrom(t *testing.T, text string, marks []int, transit []api.Event, want string, wantError api.Errno) {
	t.Helper()
	n := netOf(t, text)
	r := begun(n, marks, transit)
	e := r.upTo(math.MaxInt)
	if got := show(n, r.result()); got != want || e != wantError {
		t.Errorf("%s from %v, %v:\n%s, %d, not\n%s, %d", text, marks, transit, got, e, want, wantError)
	}
}

// TestMaxTokensBehindArrivals: a place may have MaxTokens when all has arrived, and not one more; then nothing fires
// (P9.1, P9.2).
func TestMaxTokensBehindArrivals(t *testing.T) {
	const text = "place p; place q; trans t: p, q ->;"
	p, q := func(n int) api.Event { return api.Event{Time: 5, Place: 0, N: n} }, api.Event{Time: 5, Place: 1, N: 1}
	later := api.Event{Time: 9, Place: 1, N: 7}
	for _, c := range []struct {
		marks   []int
		transit []api.Event
		want    string
		error   api.Errno
	}{
		{[]int{most - 2, 0}, []api.Event{p(1)}, fmt.Sprint("| ", most-1, " 0 | 0 0 | 5"), api.OK},
		{[]int{most - 2, 0}, []api.Event{p(2)}, fmt.Sprint("| ", most, " 0 | 0 0 | 5"), api.OK},
		{[]int{most - 2, 0}, []api.Event{p(3)}, fmt.Sprint("| ", most+1, " 0 | 0 0 | 5"), api.ErrOver},
		{[]int{0, 0}, []api.Event{p(most)}, fmt.Sprint("| ", most, " 0 | 0 0 | 5"), api.OK},
		{[]int{0, 0}, []api.Event{p(most + 1)}, fmt.Sprint("| ", most+1, " 0 | 0 0 | 5"), api.ErrOver},
		{[]int{most - 1, 0}, []api.Event{p(1), q}, fmt.Sprint("5:t | ", most-1, " 0 | 0 0 | 5"), api.OK},
		// All arrives, wherever in the row the one too many is.
		{[]int{most - 1, 0}, []api.Event{p(2), q}, fmt.Sprint("| ", most+1, " 1 | 0 0 | 5"), api.ErrOver},
		{[]int{most - 1, 0}, []api.Event{q, p(2)}, fmt.Sprint("| ", most+1, " 1 | 0 0 | 5"), api.ErrOver},
		{[]int{most - 1, 0}, []api.Event{p(1), q, p(1)}, fmt.Sprint("| ", most+1, " 1 | 0 0 | 5"), api.ErrOver},
		{[]int{most - 1, 0}, []api.Event{later, p(3), q, later}, fmt.Sprint("| ", most+2, " 1 | 0 14 | 5"), api.ErrOver},
		{[]int{most, 0}, []api.Event{q}, fmt.Sprint("5:t | ", most-1, " 0 | 0 0 | 5"), api.OK},
		{[]int{0, most}, []api.Event{q}, fmt.Sprint("| 0 ", most+1, " | 0 0 | 5"), api.ErrOver},
		// What is in transit does not count yet.
		{[]int{most, 0}, []api.Event{later, p(1)}, fmt.Sprint("| ", most+1, " 0 | 0 7 | 5"), api.ErrOver},
		{[]int{0, most - 7}, []api.Event{later}, fmt.Sprint("| 0 ", most, " | 0 0 | 9"), api.OK},
	} {
		wantFrom(t, text, c.marks, c.transit, c.want, c.error)
	}
}

// TestMaxTokensBehindFirings: a place may have MaxTokens behind a firing, and not one more; the firing is logged (P9.1, P9.2).
func TestMaxTokensBehindFirings(t *testing.T) {
	const text = "place p; place q; place r; trans t: q -> p*3, r; trans u: r, p ->;"
	wantFrom(t, text, []int{most - 3, 1, 0}, nil, fmt.Sprint("0:t 0:u | ", most-1, " 0 0 | 0 0 0 | 0"), api.OK)
	wantFrom(t, text, []int{most - 2, 1, 0}, nil, fmt.Sprint("0:t | ", most+1, " 0 1 | 0 0 0 | 0"), api.ErrOver)
	wantFrom(t, text, []int{most - 5, 2, 0}, nil, fmt.Sprint("0:t 0:t | ", most+1, " 0 2 | 0 0 0 | 0"), api.ErrOver)
	wantFrom(t, text, []int{0, 1, most}, nil, fmt.Sprint("0:t | 3 0 ", most+1, " | 0 0 0 | 0"), api.ErrOver)
	// What the firing takes is gone first.
	wantFrom(t, "place p; place q; trans t: q, p*2 -> p*2;", []int{most, 1}, nil, fmt.Sprint("0:t | ", most, " 0 | 0 0 | 0"), api.OK)
	wantFrom(t, "place p; place q; trans t: q, p*2 -> p*3;", []int{most, 1}, nil, fmt.Sprint("0:t | ", most+1, " 0 | 0 0 | 0"), api.ErrOver)
	// With a delay it is an error when they arrive.
	const delayed = "place p; place q; trans t @4: q -> p*3;"
	wantFrom(t, delayed, []int{most - 3, 1}, nil, fmt.Sprint("0:t | ", most, " 0 | 0 0 | 4"), api.OK)
	wantFrom(t, delayed, []int{most - 2, 1}, nil, fmt.Sprint("0:t | ", most+1, " 0 | 0 0 | 4"), api.ErrOver)
	wantFrom(t, delayed, []int{most, 2}, nil, fmt.Sprint("0:t 0:t | ", most+6, " 0 | 0 0 | 4"), api.ErrOver)
}

// TestMaxTime: tokens may arrive at MaxTime, and not behind it; then the firing is not logged, and takes nothing (P9.1, P9.2).
func TestMaxTime(t *testing.T) {
	at := func(time int) []api.Event { return []api.Event{{Time: time, Place: 0, N: 1}} }
	const text = "place p; place q; trans t @5: p -> q;"
	wantFrom(t, text, []int{0, 0}, at(last-6), fmt.Sprintf("%d:t | 0 1 | 0 0 | %d", last-6, last-1), api.OK)
	wantFrom(t, text, []int{0, 0}, at(last-5), fmt.Sprintf("%d:t | 0 1 | 0 0 | %d", last-5, last), api.OK)
	wantFrom(t, text, []int{0, 0}, at(last-4), fmt.Sprintf("| 1 0 | 0 0 | %d", last-4), api.ErrOver)
	wantFrom(t, text, []int{0, 0}, at(last), fmt.Sprintf("| 1 0 | 0 0 | %d", last), api.ErrOver)
	wantFrom(t, "place p; trans t @5: p -> p;", []int{0}, at(last-7), fmt.Sprintf("%d:t | 1 | 0 | %d", last-7, last-2), api.ErrOver)
	wantFrom(t, "place p; trans t @1000000: p -> p;", []int{0}, at(last-1000000), fmt.Sprintf("%d:t | 1 | 0 | %d", last-1000000, last), api.ErrOver)
	// What was in transit stays so.
	wantFrom(t, text, []int{0, 0}, append(at(last-2), api.Event{Time: last, Place: 1, N: 9}), fmt.Sprintf("| 1 0 | 0 9 | %d", last-2), api.ErrOver)
	// Without a delay they arrive in time; where no tokens arrive, none arrive too late.
	wantFrom(t, "place p; place q; trans t: p -> q;", []int{0, 0}, at(last), fmt.Sprintf("%d:t | 0 1 | 0 0 | %d", last, last), api.OK)
	wantFrom(t, "place p; trans t @5: p ->;", []int{0}, at(last), fmt.Sprintf("%d:t | 0 | 0 | %d", last, last), api.OK)
}

// TestSeveralErrors: of those that apply to one firing ErrInstant comes first, then ErrLong, then ErrOver for the time (P9.1).
func TestSeveralErrors(t *testing.T) {
	n := netOf(t, "place p; trans t @5: p -> p; trans u @5: p ->;")
	for _, fired := range []int{0, api.MaxInstant - 1, api.MaxInstant, api.MaxInstant + 1} {
		for _, logged := range []int{0, api.MaxFires - 1, api.MaxFires, api.MaxFires + 1} {
			for _, time := range []int{0, last - 5, last - 4, last} {
				for i := range n.Trans {
					r := run{net: n, log: make([]api.Fire, logged), marks: []int{1}, time: time}
					want := api.OK
					switch {
					case fired >= api.MaxInstant:
						want = api.ErrInstant
					case logged >= api.MaxFires:
						want = api.ErrLong
					case i == 0 && time > last-5:
						want = api.ErrOver
					}
					if got := r.refuse(i, fired); got != want {
						t.Errorf("%d, %d, %d, transition %d: %d, not %d", fired, logged, time, i, got, want)
					}
				}
			}
		}
	}
	for logged, want := range map[int]api.Errno{api.MaxFires - 1: api.ErrOver, api.MaxFires: api.ErrLong} {
		r := begun(n, []int{0}, []api.Event{{Time: last, Place: 0, N: 1}})
		r.log = make([]api.Fire, logged)
		if e := r.upTo(last); e != want || len(r.log) != logged || r.marks[0] != 1 || r.time != last {
			t.Errorf("%d firings ahead: %d, %v", logged, e, r.result())
		}
	}
}

// TestResultsAreNew: what is done to a result is seen in no other list, no other result, and not in the net (P2 and the rule
// of memory).
func TestResultsAreNew(t *testing.T) {
	n := netOf(t, "place p = 3; place q; trans t @2: p -> q; trans u: q*3 -> p*2;")
	const want = "0:t 0:t 0:t 2:u 2:t 2:t | 0 0 | 0 2 | 2"
	for range 3 {
		r, _ := Run(n, 3)
		if got := show(n, r); got != want {
			t.Errorf("%s, not %s", got, want)
		}
		_, _, _ = append(r.Log, api.Fire{Time: 9, Trans: 1}), append(r.Marks, 9), append(r.Way, 9)
		if got := show(n, r); got != want {
			t.Errorf("lists grew into one another: %s, not %s", got, want)
		}
		clear(r.Log)
		r.Marks[0], r.Marks[1] = 55, 56
		if !slices.Equal(r.Way, []int{0, 2}) || n.Places[0].Tokens != 3 {
			t.Errorf("%v %v", r.Way, n)
		}
		r.Way[0], r.Way[1] = 57, 58
		if !slices.Equal(r.Marks, []int{55, 56}) {
			t.Errorf("%v", r.Marks)
		}
	}
	r, _ := Run(n, 3)
	n.Places[0].Tokens = 1
	n.Trans[0].Name, n.Trans[0].Out[0].Place = "other", 0
	if r.Marks[0] != 0 || r.Way[1] != 2 || len(r.Log) != 6 {
		t.Errorf("a result follows its net: %v", r)
	}
}

// TestArgumentsStay: nothing is changed behind the ends of a net's slices (the rule of memory).
func TestArgumentsStay(t *testing.T) {
	behind := api.Arc{Place: 7, N: 7}
	lists := [][]api.Arc{{{Place: 0, N: 1}, behind}, {{Place: 1, N: 5}, behind}, {{Place: 1, N: 2}, behind}}
	n := api.Net{
		Places: []api.Place{{Name: "p", Tokens: 3}, {Name: "q"}, {Name: "behind", Tokens: 9}}[:2],
		Trans:  []api.Trans{{Name: "t", In: lists[0][:1], Not: lists[1][:1], Out: lists[2][:1]}, {Name: "behind"}}[:1],
	}
	for _, delay := range []int{0, 1} {
		n.Trans[0].Delay = delay
		before := net.Copy(n)
		if r, e := Run(n, 5); e != api.OK || len(r.Log) != 3 || r.Marks[1] != 6 {
			t.Errorf("%v %d", r, e)
		}
		if !net.Equal(n, before) || n.Places[:3][2].Tokens != 9 || n.Trans[:2][1].Name != "behind" {
			t.Errorf("%v was changed to %v", before, n)
		}
		for _, list := range lists {
			if list[1] != behind {
				t.Errorf("a list was changed behind its end: %v", list)
			}
		}
	}
}

// modelRun is a run that begins with these marks and tokens in transit, by the words of P9.1 and P9.2, and without the
// layers below: it knows for each time what arrives then.
func modelRun(n api.Net, marks []int, transit []api.Event, horizon int) (api.Result, api.Errno) {
	r := api.Result{Marks: slices.Clone(marks)}
	due := map[int][]int{0: make([]int, len(marks))}
	add := func(time, place, count int) {
		if due[time] == nil {
			due[time] = make([]int, len(marks))
		}
		due[time][place] += count
	}
	for _, e := range transit {
		add(e.Time, e.Place, e.N)
	}
	e := modelTimes(n, &r, due, add, horizon)
	r.Way = make([]int, len(marks))
	for _, list := range due {
		for i, x := range list {
			r.Way[i] += x
		}
	}
	return r, e
}

func modelTimes(n api.Net, r *api.Result, due map[int][]int, add func(time, place, count int), horizon int) api.Errno {
	for len(due) > 0 {
		now := slices.Min(slices.Collect(maps.Keys(due)))
		if now > horizon {
			break
		}
		r.Time = now
		for i, x := range due[now] {
			r.Marks[i] += x
		}
		delete(due, now)
		if slices.ContainsFunc(r.Marks, func(x int) bool { return x > api.MaxTokens }) {
			return api.ErrOver
		}
		if e := modelInstant(n, r, add); e != api.OK {
			return e
		}
	}
	return api.OK
}

// modelInstant fires as long as one is enabled: the first one in the order of priorities.
func modelInstant(n api.Net, r *api.Result, add func(time, place, count int)) api.Errno {
	order := make([]int, len(n.Trans))
	for i := range order {
		order[i] = i
	}
	slices.SortStableFunc(order, func(a, b int) int { return cmp.Compare(n.Trans[a].Prio, n.Trans[b].Prio) })
	enabled := func(i int) bool {
		short := func(a api.Arc) bool { return r.Marks[a.Place] < a.N }
		full := func(a api.Arc) bool { return r.Marks[a.Place] >= a.N }
		return !slices.ContainsFunc(n.Trans[i].In, short) && !slices.ContainsFunc(n.Trans[i].Not, full)
	}
	fired := map[int]int{}
	for {
		k := slices.IndexFunc(order, enabled)
		if k < 0 {
			return api.OK
		}
		i := order[k]
		t := n.Trans[i]
		if fired[i] == api.MaxInstant {
			return api.ErrInstant
		}
		if len(r.Log) == api.MaxFires {
			return api.ErrLong
		}
		if len(t.Out) > 0 && r.Time > api.MaxTime-t.Delay {
			return api.ErrOver
		}
		fired[i]++
		r.Log = append(r.Log, api.Fire{Time: r.Time, Trans: i})
		for _, a := range t.In {
			r.Marks[a.Place] -= a.N
		}
		for _, a := range t.Out {
			if t.Delay == 0 {
				r.Marks[a.Place] += a.N
			} else {
				add(r.Time+t.Delay, a.Place, a.N)
			}
		}
		if slices.ContainsFunc(r.Marks, func(x int) bool { return x > api.MaxTokens }) {
			return api.ErrOver
		}
	}
}

// chanceNet is a valid net made by chance, of small numbers, so that several things fall on one time. With lively, most
// firings give as much as they take, with a delay, so that a run goes on for long.
func chanceNet(r *rand.Rand, lively bool) api.Net {
	var n api.Net
	for i := range 1 + r.Intn(5) {
		n.Places = append(n.Places, api.Place{Name: fmt.Sprint("p", i), Tokens: r.Intn(5)})
	}
	chance := func(least, count, weight int) (l []api.Arc) {
		order := r.Perm(len(n.Places))
		for _, place := range order[:min(least+r.Intn(count), len(order))] {
			l = append(l, api.Arc{Place: place, N: 1 + r.Intn(weight)})
		}
		return l
	}
	for i := range 1 + r.Intn(6) {
		tr := api.Trans{Name: fmt.Sprint("t", i), Prio: r.Intn(3), Delay: []int{0, 0, 1, 2, 3, 5}[r.Intn(6)]}
		if lively {
			tr.Delay = 1 + r.Intn(4)
			tr.In, tr.Out = chance(1, 2, 1), chance(1, 2, 1)
		} else {
			tr.In, tr.Out = chance(r.Intn(2), 2, 3), chance(0, 3, 3)
		}
		if r.Intn(3) == 0 {
			tr.Not = chance(0, 3, 4)
		}
		n.Trans = append(n.Trans, tr)
	}
	return n
}

// TestChanceAgainstModel: runs of nets made by chance (P9.1, P9.2, P2, P5 and the rule of memory). A run up to an earlier
// horizon has those of the firings that are not behind it.
func TestChanceAgainstModel(t *testing.T) {
	r := rand.New(rand.NewSource(9))
	ends := map[api.Errno]int{}
	firings, later := 0, 0
	for i := range 6000 {
		n := chanceNet(r, i%3 == 0)
		horizon := []int{r.Intn(12) - 2, r.Intn(60), 3000}[r.Intn(3)]
		got, e := Run(n, horizon)
		want, wantError := modelRun(n, mark.First(n), nil, horizon)
		if e != wantError || !equal(got, want) {
			t.Fatalf("%v up to %d: %v %d, not %v %d", n, horizon, got, e, want, wantError)
		}
		wantSame(t, n, horizon, got, e)
		wantAccount(t, n, got)
		ends[e]++
		firings += len(got.Log)
		earlier := r.Intn(max(got.Time, 1))
		begins, _ := Run(n, earlier)
		isLater := func(f api.Fire) bool { return f.Time > earlier }
		if !slices.Equal(begins.Log, slices.DeleteFunc(got.Log, isLater)) && horizon >= 0 {
			t.Fatalf("%v up to %d: %v", n, earlier, begins)
		}
		if got.Time > earlier {
			later++
		}
		if t.Failed() {
			return
		}
	}
	if ends[api.OK] < 1000 || ends[api.ErrInstant] < 1000 || ends[api.ErrLong] < 100 || firings < 100000 || later < 1000 {
		t.Errorf("the nets are one-sided: ends %v, %d firings, %d go on", ends, firings, later)
	}
}

// TestChanceRefused: nets made by chance in which one number is changed, so that most are not valid (P9.1, P9.2, P1).
func TestChanceRefused(t *testing.T) {
	r := rand.New(rand.NewSource(91))
	ends := map[api.Errno]int{}
	for range 3000 {
		n := chanceNet(r, false)
		tr := &n.Trans[r.Intn(len(n.Trans))]
		numbers := []*int{&n.Places[r.Intn(len(n.Places))].Tokens, &tr.Delay, &tr.Prio}
		for _, list := range [][]api.Arc{tr.In, tr.Not, tr.Out} {
			for i := range list {
				numbers = append(numbers, &list[i].Place, &list[i].N)
			}
		}
		*numbers[r.Intn(len(numbers))] = []int{math.MinInt, -1, 0, 1, 2, 3, 5, api.MaxNum + 1, math.MaxInt}[r.Intn(9)]
		got, e := Run(n, 20)
		want := net.Check(n)
		ends[want]++
		if want == api.OK {
			model, wantError := modelRun(n, mark.First(n), nil, 20)
			if e != wantError || !equal(got, model) {
				t.Fatalf("%v: %v %d, not %v %d", n, got, e, model, wantError)
			}
		} else if e != want || !equal(got, api.Result{}) {
			t.Fatalf("%v: %v %d, not %d", n, got, e, want)
		}
	}
	if ends[api.OK] < 300 || ends[api.ErrOver] < 300 || ends[api.ErrNone] < 100 || ends[api.ErrArg] < 30 {
		t.Errorf("the nets are one-sided: %v", ends)
	}
}

// TestChanceAtBounds: runs made by chance that begin close to MaxTokens and MaxTime (P9.1, P9.2).
func TestChanceAtBounds(t *testing.T) {
	r := rand.New(rand.NewSource(90))
	ends := map[api.Errno]int{}
	for i := range 6000 {
		n := chanceNet(r, i%2 == 0)
		marks := mark.First(n)
		var transit []api.Event
		for place := range marks {
			if r.Intn(4) == 0 {
				marks[place] = most - r.Intn(12)
			}
		}
		for range r.Intn(6) {
			transit = append(transit, api.Event{Time: last - r.Intn(12), Place: r.Intn(len(marks)), N: 1 + r.Intn(4)})
		}
		begins := begun(n, marks, transit)
		e := begins.upTo(math.MaxInt)
		want, wantError := modelRun(n, marks, transit, math.MaxInt)
		if e != wantError || !equal(begins.result(), want) {
			t.Fatalf("%v from %v, %v: %v %d, not %v %d", n, marks, transit, begins.result(), e, want, wantError)
		}
		if e == api.ErrOver && slices.Max(want.Marks) <= most {
			e = -1 // for the time
		}
		ends[e]++
	}
	if ends[api.OK] < 300 || ends[api.ErrOver] < 300 || ends[-1] < 300 || ends[api.ErrInstant] < 300 {
		t.Errorf("the runs are one-sided: %v", ends)
	}
}
