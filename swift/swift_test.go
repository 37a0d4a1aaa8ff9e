package swift

import (
	"fmt"
	"math"
	"math/rand"
	"slices"
	"strings"
	"testing"

	"marblerun/api"
	"marblerun/mark"
	"marblerun/net"
	"marblerun/parse"
	"marblerun/plain"
	"marblerun/print"
)

// netOf is the net of a text.
func netOf(t *testing.T, text string) api.Net {
	t.Helper()
	n, f := parse.Net([]byte(text))
	if f != (api.Fault{}) {
		t.Fatalf("%q: %v", text, f)
	}
	return n
}

// show is a result as text: the firings as time:name, then Marks, Way and Time, with bars between.
func show(n api.Net, r api.Result) string {
	var b strings.Builder
	for _, f := range r.Log {
		fmt.Fprintf(&b, "%d:%s ", f.Time, n.Trans[f.Trans].Name)
	}
	list := func(l []int) string { return strings.Trim(fmt.Sprint(l), "[]") }
	return fmt.Sprint(b.String(), "| ", list(r.Marks), " | ", list(r.Way), " | ", r.Time)
}

// times are so many firings of one transition at one time, as show tells them.
func times(count, time int, name string) string {
	return strings.Repeat(fmt.Sprint(time, ":", name, " "), count)
}

// equal reports whether two results are equal in all they hold.
func equal(a, b api.Result) bool {
	return slices.Equal(a.Log, b.Log) && slices.Equal(a.Marks, b.Marks) && slices.Equal(a.Way, b.Way) && a.Time == b.Time
}

// marked are the lists mine and away of a net: the transitions and places with these names (with * all of them).
func marked(n api.Net, mine, away string) ([]bool, []bool) {
	trans, places := make([]bool, len(n.Trans)), make([]bool, len(n.Places))
	for i, t := range n.Trans {
		trans[i] = mine == "*" || slices.Contains(strings.Fields(mine), t.Name)
	}
	for i, p := range n.Places {
		places[i] = away == "*" || slices.Contains(strings.Fields(away), p.Name)
	}
	return trans, places
}

// engine is an engine of the net of a text that is asked step by step.
type engine struct {
	*Engine
	t   *testing.T
	net api.Net
}

// begin is the engine of a text with these transitions of its own, and these places of others.
func begin(t *testing.T, text, mine, away string) engine {
	t.Helper()
	n := netOf(t, text)
	trans, places := marked(n, mine, away)
	return engine{New(n, trans, places), t, n}
}

// come is Come with a place's name.
func (x engine) come(time int, place string, count int) {
	x.Come(api.Event{Time: time, Place: net.Place(x.net, place), N: count})
}

// instant: Instant returns this.
func (x engine) instant(time int, want api.Errno) {
	x.t.Helper()
	if e := x.Instant(time); e != want {
		x.t.Errorf("Instant(%d): %d, not %d; %s", time, e, want, show(x.net, x.Result()))
	}
}

// comesTo: Next and Result return this, also once more (P2).
func (x engine) comesTo(next int, want string) {
	x.t.Helper()
	for range 2 {
		if got := x.Next(); got != next {
			x.t.Errorf("Next: %d, not %d", got, next)
		}
		if got := show(x.net, x.Result()); got != want {
			x.t.Errorf("Result:\n%s, not\n%s", got, want)
		}
	}
}

// tells: Told returns this, events as time:place*number, and nothing the second time.
func (x engine) tells(want string) {
	x.t.Helper()
	var l []string
	for _, e := range x.Told() {
		l = append(l, fmt.Sprintf("%d:%s*%d", e.Time, x.net.Places[e.Place].Name, e.N))
	}
	if got := strings.Join(l, " "); got != want {
		x.t.Errorf("Told: %s, not %s", got, want)
	}
	if again := x.Told(); len(again) != 0 {
		x.t.Errorf("Told once more: %v", again)
	}
}

// wantRun: what the net of a text comes to (P10.1).
func wantRun(t *testing.T, text string, horizon int, want string, wantError api.Errno) {
	t.Helper()
	n := netOf(t, text)
	r, e := Run(n, horizon)
	if got := show(n, r); got != want || e != wantError {
		t.Errorf("%s up to %d:\n%s, %d, not\n%s, %d", text, horizon, got, e, want, wantError)
	}
	wantPlain(t, n, horizon)
}

// wantPlain: a net comes to the same as with plain.Run, also once more, and read back from its text, and stays as it was
// (P10.1, P2, P5 and the rule of memory).
func wantPlain(t *testing.T, n api.Net, horizon int) (api.Result, api.Errno) {
	t.Helper()
	before := net.Copy(n)
	want, wantError := plain.Run(n, horizon)
	for range 2 {
		if r, e := Run(n, horizon); e != wantError || !equal(r, want) {
			t.Errorf("%v up to %d: %v %d, not %v %d", n, horizon, r, e, want, wantError)
		}
	}
	if !net.Equal(n, before) {
		t.Errorf("%v was changed to %v", before, n)
	}
	if text, e := print.Text(n); e == api.OK {
		if r, e := Run(netOf(t, string(text)), horizon); e != wantError || !equal(r, want) {
			t.Errorf("%v up to %d: read back %v %d, not %v %d", n, horizon, r, e, want, wantError)
		}
	}
	return want, wantError
}

// TestRunHorizon: below 0 nothing happens; at the horizon all still does, and nothing behind it (P10.1).
func TestRunHorizon(t *testing.T) {
	const text = "place p = 1; place q; trans t @5: p -> q; trans u: q ->;"
	for _, horizon := range []int{math.MinInt, -5, -1} {
		wantRun(t, text, horizon, "| 1 0 | 0 0 | 0", api.OK)
		wantRun(t, "place p = 7; trans t: ->;", horizon, "| 7 | 0 | 0", api.OK)
	}
	for _, horizon := range []int{0, 1, 3, 4} {
		wantRun(t, text, horizon, "0:t | 0 0 | 0 1 | 0", api.OK)
	}
	for _, horizon := range []int{5, 6, 7, api.MaxTime, api.MaxTime + 1, math.MaxInt} {
		wantRun(t, text, horizon, "0:t 5:u | 0 0 | 0 0 | 5", api.OK)
	}
	wantRun(t, "place p = 1; trans t @2: p -> p;", 5, "0:t 2:t 4:t | 0 | 1 | 4", api.OK)
	wantRun(t, "place p = 1; trans t @2: p -> p;", 4, "0:t 2:t 4:t | 0 | 1 | 4", api.OK)
	wantRun(t, "place p = 1; trans t @2: p -> p;", 3, "0:t 2:t | 0 | 1 | 2", api.OK)
	wantRun(t, "place p = 20; trans t @3: p -> p*2;", 2, times(20, 0, "t")+"| 0 | 40 | 0", api.OK)
	wantRun(t, "place p = 20; trans t @3: p -> p*2;", 3, times(20, 0, "t")+times(20, 3, "t")+"| 20 | 40 | 3", api.ErrInstant)
	for _, horizon := range []int{-1, 0, 9} {
		wantRun(t, "", horizon, "|  |  | 0", api.OK)
		wantRun(t, "place p = 3; place q;", horizon, "| 3 0 | 0 0 | 0", api.OK)
	}
}

// TestRunFirings: delays, transitions that take nothing, that ask, and that ask where tokens come at the same time (P10.1).
func TestRunFirings(t *testing.T) {
	wantRun(t, "place p = 1; place q; trans t: p -> q; trans u: q ->;", 0, "0:t 0:u | 0 0 | 0 0 | 0", api.OK)
	wantRun(t, "place p = 2; place q; trans t !1: p -> q; trans u: q ->;", 9, "0:t 0:u 0:t 0:u | 0 0 | 0 0 | 0", api.OK)
	wantRun(t, "place p = 2; place q; trans t @1 !1: p -> q; trans u: q ->;", 9, "0:t 0:t 1:u 1:u | 0 0 | 0 0 | 1", api.OK)
	wantRun(t, "place p = 3; trans t @1000000: p -> p;", 1000000, "0:t 0:t 0:t 1000000:t 1000000:t 1000000:t | 0 | 3 | 1000000", api.OK)
	// What takes nothing is stopped by its list Not alone.
	wantRun(t, "place p; trans t: ~p*3 -> p;", 9, "0:t 0:t 0:t | 3 | 0 | 0", api.OK)
	wantRun(t, "place p; trans t: -> p;", 9, times(20, 0, "t")+"| 20 | 0 | 0", api.ErrInstant)
	wantRun(t, "place p; trans t @3: ~p -> p;", 9, times(20, 0, "t")+"| 0 | 20 | 0", api.ErrInstant)
	wantRun(t, "trans t: ->;", 9, times(20, 0, "t")+"|  |  | 0", api.ErrInstant)
	// A list Not is asked again whenever tokens are taken or given: also by what fires, and by another one.
	wantRun(t, "place p = 3; place q; trans t: p, ~q*2 -> q;", 9, "0:t 0:t | 1 2 | 0 0 | 0", api.OK)
	wantRun(t, "place p = 3; place q = 2; trans t: p, ~q -> q; trans u !1: q ->;", 9, "0:u 0:u 0:t 0:u 0:t 0:u 0:t 0:u | 0 0 | 0 0 | 0", api.OK)
	wantRun(t, "place p = 3; trans t @2: p*2, ~p*4 -> p*3;", 9, "0:t | 4 | 0 | 2", api.OK)
	wantRun(t, "place p = 5; place k = 2; trans t !1: p ->; trans u: k, ~p*4 -> p*3;", 0,
		"0:t 0:t 0:u 0:t 0:t 0:t 0:u 0:t 0:t 0:t 0:t 0:t 0:t | 0 0 | 0 0 | 0", api.OK)
	// All tokens of one time are there ahead of what fires then.
	const one = "place a = 1; place b = 1; place p; place q; trans t @3: a -> p; trans u @3: b -> q; "
	wantRun(t, one+"trans v !1: p, q ->; trans w: p, ~q ->; trans x: q, ~p ->;", 3, "0:t 0:u 3:v | 0 0 0 0 | 0 0 0 0 | 3", api.OK)
	wantRun(t, one+"trans v !1: p ->; trans w: q ->;", 3, "0:t 0:u 3:w 3:v | 0 0 0 0 | 0 0 0 0 | 3", api.OK)
}

// TestRunPriorities: of those enabled the one of the lowest priority fires, and of equal ones the first (P10.1).
func TestRunPriorities(t *testing.T) {
	wantRun(t, "place p = 3; trans t !2: p ->; trans u !1: p ->;", 9, "0:u 0:u 0:u | 0 | 0 | 0", api.OK)
	wantRun(t, "place p = 3; trans t !2: p ->; trans u !2: p ->;", 9, "0:t 0:t 0:t | 0 | 0 | 0", api.OK)
	wantRun(t, "place p = 2; place q = 1; trans t !2: p ->; trans u !1: p, q ->;", 9, "0:u 0:t | 0 0 | 0 0 | 0", api.OK)
	// A firing may enable one that is ahead of it, and disable one behind it.
	wantRun(t, "place p = 2; place q; place r = 2; trans t !1: p -> q; trans u !2: r, ~q*2 ->; trans v: q*2 -> r;", 9,
		"0:t 0:t 0:v 0:u 0:u 0:u | 0 0 0 | 0 0 0 | 0", api.OK)
	// A time ahead comes first, whatever the priority.
	wantRun(t, "place p = 1; place q = 1; trans t @1 !9: p -> p; trans u @2 !3: q -> q;", 4,
		"0:u 0:t 1:t 2:u 2:t 3:t 4:u 4:t | 0 0 | 1 1 | 4", api.OK)
}

// filled is a net of so many places without tokens, and so many transitions that take one from the first place.
func filled(places, trans int) api.Net {
	var n api.Net
	for i := range places {
		n.Places = append(n.Places, api.Place{Name: fmt.Sprint("p", i)})
	}
	for i := range trans {
		n.Trans = append(n.Trans, api.Trans{Name: fmt.Sprint("t", i), In: []api.Arc{{Place: 0, N: 1}}})
	}
	return n
}

// refused are nets that are not valid, each with its error.
func refused() map[api.Errno][]api.Net {
	l := map[api.Errno][]api.Net{api.ErrLong: {filled(api.MaxPlaces+1, 0), filled(1, api.MaxTrans+1)}}
	add := func(e api.Errno, change func(n *api.Net)) {
		n := filled(10, 2)
		change(&n)
		l[e] = append(l[e], n)
	}
	for _, name := range []string{"", "p 1", "0", "abcdefghijklm", "p0", "t0"} {
		add(api.ErrName, func(n *api.Net) { n.Places[9].Name = name })
		add(api.ErrName, func(n *api.Net) { n.Trans[1].Name = name })
	}
	for _, x := range []int{math.MinInt, -1, api.MaxNum + 1, math.MaxInt} {
		add(api.ErrOver, func(n *api.Net) { n.Places[9].Tokens = x })
		add(api.ErrOver, func(n *api.Net) { n.Trans[1].Delay = x })
		add(api.ErrOver, func(n *api.Net) { n.Trans[1].Prio = x })
	}
	for which := range 3 {
		addArcs := func(e api.Errno, list ...api.Arc) {
			add(e, func(n *api.Net) {
				tr := &n.Trans[1]
				*[]*[]api.Arc{&tr.In, &tr.Not, &tr.Out}[which] = list
			})
		}
		var long []api.Arc
		for i := range api.MaxArcs + 1 {
			long = append(long, api.Arc{Place: i, N: 1})
		}
		addArcs(api.ErrLong, long...)
		for _, x := range []int{math.MinInt, -1, 0, api.MaxNum + 1, math.MaxInt} {
			addArcs(api.ErrOver, api.Arc{Place: 2, N: x})
		}
		for _, x := range []int{math.MinInt, -1, 10, math.MaxInt} {
			addArcs(api.ErrNone, api.Arc{Place: x, N: 1})
		}
		addArcs(api.ErrArg, api.Arc{Place: 2, N: 1}, api.Arc{Place: 3, N: 1}, api.Arc{Place: 2, N: 2})
	}
	return l
}

// TestRefused: the error of Run is that of net.Check, whatever the horizon, and all else is its zero value; an engine of such
// a net does nothing, and does not panic (P10.1, P1).
func TestRefused(t *testing.T) {
	all := refused()
	for _, want := range []api.Errno{api.ErrLong, api.ErrName, api.ErrOver, api.ErrNone, api.ErrArg} {
		if len(all[want]) < 3 {
			t.Errorf("error %d: %d nets alone", want, len(all[want]))
		}
		for _, n := range all[want] {
			before := net.Copy(n)
			for _, horizon := range []int{math.MinInt, -1, 0, 1, math.MaxInt} {
				if r, e := Run(n, horizon); e != want || net.Check(n) != want || !equal(r, api.Result{}) {
					t.Errorf("%v up to %d: %v %d, not %d (net.Check: %d)", n, horizon, r, e, want, net.Check(n))
				}
			}
			trans, places := marked(n, "*", "")
			x := New(n, trans, places)
			x.Come(api.Event{Time: 1, Place: 2, N: 1})
			x.Instant(0)
			x.Instant(max(x.Next(), 1))
			x.Told()
			x.Result()
			if !net.Equal(n, before) {
				t.Errorf("%v was changed to %v", before, n)
			}
		}
	}
	// It does not run, even if it would come to another error.
	n := api.Net{Trans: []api.Trans{{Name: "t"}, {Name: "t"}}}
	if r, e := Run(n, 5); e != api.ErrName || !equal(r, api.Result{}) {
		t.Errorf("%v %d", r, e)
	}
}

// TestRunMaxInstant: one transition may fire twenty times at one time, at each time anew (P10.1).
func TestRunMaxInstant(t *testing.T) {
	wantRun(t, "place p = 19; trans t: p ->;", 9, times(19, 0, "t")+"| 0 | 0 | 0", api.OK)
	wantRun(t, "place p = 20; trans t: p ->;", 9, times(20, 0, "t")+"| 0 | 0 | 0", api.OK)
	wantRun(t, "place p = 21; trans t: p ->;", 9, times(20, 0, "t")+"| 1 | 0 | 0", api.ErrInstant)
	both := times(20, 0, "t") + times(20, 0, "u")
	wantRun(t, "place p = 20; place q = 20; trans t: p ->; trans u: q ->;", 9, both+"| 0 0 | 0 0 | 0", api.OK)
	wantRun(t, "place p = 20; place q = 21; trans t: p ->; trans u: q ->;", 9, both+"| 0 1 | 0 0 | 0", api.ErrInstant)
	wantRun(t, "place p = 20; trans t @1: p -> p;", 2, times(20, 0, "t")+times(20, 1, "t")+times(20, 2, "t")+"| 0 | 20 | 2", api.OK)
	wantRun(t, "place p = 21; place q; trans t !1: p -> q; trans u: q*20, p ->;", 9, times(20, 0, "t")+"0:u | 0 0 | 0 0 | 0", api.OK)
	turns := strings.Repeat("0:t 0:u ", 20)
	wantRun(t, "place p = 1; place q; trans t: p -> q; trans u: q -> p;", 9, turns+"| 1 0 | 0 0 | 0", api.ErrInstant)
	wantRun(t, "place p = 1; place q; place k = 20; trans t: p, k -> q; trans u: q -> p;", 9, turns+"| 1 0 0 | 0 0 0 | 0", api.OK)
}

// TestRunMaxFires: a run may have two thousand firings (P10.1).
func TestRunMaxFires(t *testing.T) {
	var one, twenty strings.Builder
	for i := range 2000 {
		one.WriteString(times(1, i, "t"))
		twenty.WriteString(times(1, i/20, "t"))
	}
	const text = "place p = 1; trans t @1: p -> p;"
	wantRun(t, text, 1999, one.String()+"| 0 | 1 | 1999", api.OK)
	wantRun(t, text, 2000, one.String()+"| 1 | 0 | 2000", api.ErrLong)
	wantRun(t, text, math.MaxInt, one.String()+"| 1 | 0 | 2000", api.ErrLong)
	wantRun(t, "place p = 20; trans t @1: p -> p;", 99, twenty.String()+"| 0 | 20 | 99", api.OK)
	wantRun(t, "place p = 20; trans t @1: p -> p;", 100, twenty.String()+"| 20 | 0 | 100", api.ErrLong)
	wantRun(t, "place p = 1; place k = 2000; trans t @1: p, k -> p;", math.MaxInt, one.String()+"| 1 0 | 0 0 | 2000", api.OK)
	wantRun(t, "place p = 1; place k = 2001; trans t @1: p, k -> p;", math.MaxInt, one.String()+"| 1 1 | 0 0 | 2000", api.ErrLong)
}

// TestInstantByInstant: an engine of all transitions, at 0 and then at each Next, does what Run does (P10.1, P10.2).
func TestInstantByInstant(t *testing.T) {
	x := begin(t, "place p = 3; place q; trans t @2: p -> q; trans u @1: q*3 -> p*2;", "*", "")
	x.comesTo(-1, "| 3 0 | 0 0 | 0")
	x.instant(0, api.OK)
	x.comesTo(2, "0:t 0:t 0:t | 0 0 | 0 3 | 0")
	x.instant(2, api.OK)
	x.comesTo(3, "0:t 0:t 0:t 2:u | 0 0 | 2 0 | 2")
	x.instant(3, api.OK)
	x.comesTo(5, "0:t 0:t 0:t 2:u 3:t 3:t | 0 0 | 0 2 | 3")
	x.instant(5, api.OK)
	x.comesTo(-1, "0:t 0:t 0:t 2:u 3:t 3:t | 0 2 | 0 0 | 5")
	x.tells("")
}

func TestNilEngine(t *testing.T) { // P10.2, P1
	var x *Engine
	for range 2 {
		x.Come(api.Event{Time: 3, Place: 0, N: 1})
		if got := x.Next(); got != -1 {
			t.Errorf("Next: %d", got)
		}
		for _, at := range []int{math.MinInt, -1, 0, 3, math.MaxInt} {
			if e := x.Instant(at); e != api.ErrNone {
				t.Errorf("Instant(%d): %d", at, e)
			}
		}
		if l := x.Told(); len(l) != 0 {
			t.Errorf("Told: %v", l)
		}
		if r := x.Result(); !equal(r, api.Result{}) {
			t.Errorf("Result: %v", r)
		}
	}
}

const pair = "place p = 2; place q; place r = 1; trans t @3: p -> q*2; trans u: r -> q; trans v @1 !1: q -> r, p;"

// TestMine: an engine has none, some or all of the transitions, and all places (P10.2).
func TestMine(t *testing.T) {
	for _, c := range []struct {
		mine, want string
		next       int
	}{
		{"", "| 2 0 1 | 0 0 0 | 0", -1},
		{"t", "0:t 0:t | 0 0 1 | 0 4 0 | 0", 3},
		{"u", "0:u | 2 1 0 | 0 0 0 | 0", -1},
		{"v", "| 2 0 1 | 0 0 0 | 0", -1},
		{"t u", "0:t 0:t 0:u | 0 1 0 | 0 4 0 | 0", 3},
		{"t v", "0:t 0:t | 0 0 1 | 0 4 0 | 0", 3},
		{"u v", "0:u 0:v | 2 0 0 | 1 0 1 | 0", 1},
		{"t u v", "0:t 0:t 0:u 0:v | 0 0 0 | 1 4 1 | 0", 1},
	} {
		x := begin(t, pair, c.mine, "")
		x.instant(0, api.OK)
		x.comesTo(c.next, c.want)
		x.tells("")
	}
}

// TestAway: tokens of firings for places of others are told, in the order of firings and of their lists Out, with or without
// a delay, and arrive in no place; the places have the tokens that they had at first (P10.2).
func TestAway(t *testing.T) {
	for _, c := range []struct {
		away, want, told string
		next             int
	}{
		{"", "0:t 0:t 0:u 0:v | 0 0 0 | 1 4 1 | 0", "", 1},
		{"p", "0:t 0:t 0:u 0:v | 0 0 0 | 0 4 1 | 0", "1:p*1", 1},
		{"q", "0:t 0:t 0:u | 0 0 0 | 0 0 0 | 0", "3:q*2 3:q*2 0:q*1", -1},
		{"r", "0:t 0:t 0:u 0:v | 0 0 0 | 1 4 0 | 0", "1:r*1", 1},
		{"p r", "0:t 0:t 0:u 0:v | 0 0 0 | 0 4 0 | 0", "1:r*1 1:p*1", 3},
		{"p q r", "0:t 0:t 0:u | 0 0 0 | 0 0 0 | 0", "3:q*2 3:q*2 0:q*1", -1},
		{"*", "0:t 0:t 0:u | 0 0 0 | 0 0 0 | 0", "3:q*2 3:q*2 0:q*1", -1},
	} {
		x := begin(t, pair, "*", c.away)
		x.comesTo(-1, "| 2 0 1 | 0 0 0 | 0")
		x.tells("")
		x.instant(0, api.OK)
		x.comesTo(c.next, c.want)
		x.tells(c.told)
		x.comesTo(c.next, c.want)
	}
	x := begin(t, pair, "v", "*")
	x.instant(0, api.OK)
	x.tells("")
}

// TestShortLists: what mine and away are too short for is not marked, and what they are too long for is not there (P10.2, P1).
func TestShortLists(t *testing.T) {
	n := netOf(t, pair)
	for _, c := range []struct {
		mine, away []bool
		want       string
	}{
		{nil, nil, "| 2 0 1 | 0 0 0 | 0"},
		{[]bool{}, []bool{}, "| 2 0 1 | 0 0 0 | 0"},
		{[]bool{true}, nil, "0:t 0:t | 0 0 1 | 0 4 0 | 0"},
		{[]bool{false, true}, []bool{true}, "0:u | 2 1 0 | 0 0 0 | 0"},
		{[]bool{true, true}, []bool{true, true}, "0:t 0:t 0:u | 0 0 0 | 0 0 0 | 0"},
		{slices.Repeat([]bool{true}, 40), slices.Repeat([]bool{true}, 40), "0:t 0:t 0:u | 0 0 0 | 0 0 0 | 0"},
	} {
		x := engine{New(n, c.mine, c.away), t, n}
		x.instant(0, api.OK)
		if got := show(n, x.Result()); got != c.want {
			t.Errorf("%v, %v: %s, not %s", c.mine, c.away, got, c.want)
		}
	}
	x := New(api.Net{}, slices.Repeat([]bool{true}, 40), nil)
	x.Come(api.Event{Time: 1, Place: 0, N: 1})
	if x.Next() != -1 || x.Instant(0) != api.OK || !equal(x.Result(), api.Result{}) {
		t.Errorf("nothing: %d %v", x.Next(), x.Result())
	}
}

// TestTold: what was returned is not returned again, and what comes up later follows, in order (P10.2).
func TestTold(t *testing.T) {
	const text = "place c = 1; place p; place q; trans t @1: c -> c, p, q*2; trans u @5: p -> q*7; trans v @2 !1: p*9 -> p;"
	x := begin(t, text, "t v", "p q")
	x.tells("")
	x.instant(0, api.OK)
	x.tells("1:p*1 1:q*2")
	x.instant(1, api.OK)
	x.instant(2, api.OK)
	x.tells("2:p*1 2:q*2 3:p*1 3:q*2")
	x.comesTo(3, "0:t 1:t 2:t | 0 0 0 | 1 0 0 | 2")
	x.instant(3, api.OK)
	x.come(4, "p", 9)
	x.instant(4, api.OK)
	x.tells("4:p*1 4:q*2 5:p*1 5:q*2 6:p*1")
	x.comesTo(5, "0:t 1:t 2:t 3:t 4:t 4:v | 0 0 0 | 1 0 0 | 4")
	// The times are in the order of firings, not of times.
	x = begin(t, "place a = 1; place b = 1; place q; trans t @9: a -> q; trans u @2 !1: b -> q*3;", "*", "q")
	x.instant(7, api.OK)
	x.tells("16:q*1 9:q*3")
}

// TestCome: tokens come to a place that there is, ahead of the first Instant and behind it, for times that have come and for
// others, several for one time; also to a place of another engine (P10.2).
func TestCome(t *testing.T) {
	const text = "place p; place q; trans t: p*2 -> q; trans u: q*2 ->;"
	x := begin(t, text, "*", "q")
	x.come(4, "p", 1)
	x.comesTo(4, "| 0 0 | 1 0 | 0")
	x.come(9, "p", 2)
	x.comesTo(4, "| 0 0 | 3 0 | 0")
	x.come(2, "q", 1)
	x.comesTo(2, "| 0 0 | 3 1 | 0")
	x.instant(0, api.OK)
	x.comesTo(2, "| 0 0 | 3 1 | 0")
	x.instant(1, api.OK)
	x.comesTo(2, "| 0 0 | 3 1 | 1")
	x.instant(2, api.OK)
	x.comesTo(4, "| 0 1 | 3 0 | 2")
	x.come(4, "p", 1)
	x.come(4, "q", 1)
	x.come(4, "p", 2)
	x.comesTo(4, "| 0 1 | 6 1 | 2")
	x.instant(4, api.OK)
	x.comesTo(9, "4:t 4:t 4:u | 0 0 | 2 0 | 4")
	x.tells("4:q*1 4:q*1")
	x.instant(9, api.OK)
	x.comesTo(-1, "4:t 4:t 4:u 9:t | 0 0 | 0 0 | 9")
	x.tells("9:q*1")
	// For a time that is over they arrive at the next one.
	x.come(3, "p", 2)
	x.comesTo(3, "4:t 4:t 4:u 9:t | 0 0 | 2 0 | 9")
	x.instant(12, api.OK)
	x.comesTo(-1, "4:t 4:t 4:u 9:t 12:t | 0 0 | 0 0 | 12")
	x.come(13, "p", 1)
	x.comesTo(13, "4:t 4:t 4:u 9:t 12:t | 0 0 | 1 0 | 12")
}

// TestComeNowhere: it has no effect, if there is no such place; and none, if there are no tokens (P10.2, P1).
func TestComeNowhere(t *testing.T) {
	x := begin(t, "place p; place q; trans t: p ->;", "*", "q")
	x.come(5, "p", 1)
	for _, place := range []int{math.MinInt, -2, -1, 2, 3, 32, math.MaxInt} {
		for _, time := range []int{-1, 0, 3, math.MaxInt} {
			x.Come(api.Event{Time: time, Place: place, N: 1})
		}
	}
	for _, count := range []int{0, -1, math.MinInt} {
		x.come(2, "p", count)
	}
	x.comesTo(5, "| 0 0 | 1 0 | 0")
	x.instant(5, api.OK)
	x.comesTo(-1, "5:t | 0 0 | 0 0 | 5")
}

// TestInstantBetween: also at a time at which nothing arrives, the transitions fire; at one by which several times' tokens
// have arrived, they are all there ahead of what fires, and the firings are at that time (P10.2).
func TestInstantBetween(t *testing.T) {
	x := begin(t, "place p = 1; place q; trans t @2: p -> q;", "*", "")
	x.instant(7, api.OK)
	x.comesTo(9, "7:t | 0 0 | 0 1 | 7")
	x.instant(8, api.OK)
	x.comesTo(9, "7:t | 0 0 | 0 1 | 8")
	x.instant(10, api.OK)
	x.comesTo(-1, "7:t | 0 1 | 0 0 | 10")
	x.instant(11, api.OK)
	x.comesTo(-1, "7:t | 0 1 | 0 0 | 11")

	x = begin(t, "place p; place q; place r; trans t @2: p*4, q -> r; trans u !1: p ->; trans v !1: q ->;", "*", "")
	x.come(3, "p", 1)
	x.come(9, "q", 1)
	x.come(4, "q", 1)
	x.come(5, "p", 2)
	x.come(3, "p", 1)
	x.instant(6, api.OK)
	x.comesTo(8, "6:t | 0 0 0 | 0 1 1 | 6")
	x.instant(9, api.OK)
	x.comesTo(-1, "6:t 9:v | 0 0 1 | 0 0 0 | 9")
}

const (
	most = api.MaxTokens
	last = api.MaxTime
)

// TestMaxTokensBehindArrivals: a place may have MaxTokens when all has arrived, and not one more; then nothing fires, and
// Result tells what has arrived (P10.2).
func TestMaxTokensBehindArrivals(t *testing.T) {
	const text = "place p = 5; place q; trans t: p, q ->;"
	for _, c := range []struct {
		p, q, more int
		want       string
		error      api.Errno
	}{
		{most - 5, 0, 0, fmt.Sprint("| ", most, " 0 | 0 0 | 3"), api.OK},
		{most - 4, 0, 0, fmt.Sprint("| ", most+1, " 0 | 0 0 | 3"), api.ErrOver},
		{most - 5, 1, 0, fmt.Sprint("3:t | ", most-1, " 0 | 0 0 | 3"), api.OK},
		{most - 4, 1, 0, fmt.Sprint("| ", most+1, " 1 | 0 0 | 3"), api.ErrOver},
		{most - 6, 1, 1, fmt.Sprint("3:t | ", most-1, " 0 | 0 0 | 3"), api.OK},
		{most - 6, 1, 2, fmt.Sprint("| ", most+1, " 1 | 0 0 | 3"), api.ErrOver},
		{1, most, 1, fmt.Sprint(times(7, 3, "t"), "| 0 ", most-7, " | 0 0 | 3"), api.OK},
		{1, most + 1, 1, fmt.Sprint("| 7 ", most+1, " | 0 0 | 3"), api.ErrOver},
	} {
		x := begin(t, text, "*", "")
		for place, count := range map[string]int{"p": c.p, "q": c.q} {
			x.come(3, place, count)
		}
		x.come(2, "p", c.more)
		x.instant(0, api.OK)
		x.instant(3, c.error)
		x.comesTo(-1, c.want)
	}
	// What is in transit does not count yet.
	x := begin(t, text, "*", "")
	x.come(1, "q", most)
	x.come(2, "q", most)
	x.instant(1, api.OK)
	x.comesTo(2, fmt.Sprint(times(5, 1, "t"), "| 0 ", most-5, " | 0 ", most, " | 1"))
	x.instant(2, api.ErrOver)
	x.comesTo(-1, fmt.Sprint(times(5, 1, "t"), "| 0 ", 2*most-5, " | 0 0 | 2"))
}

// TestMaxTokensBehindFirings: a place may have MaxTokens behind a firing, and not one more; the firing is logged, and all of
// its tokens are added (P10.2).
func TestMaxTokensBehindFirings(t *testing.T) {
	const text = "place p; place q; place r; trans t: q -> p*3, r; trans u: r, p ->;"
	for _, c := range []struct {
		p     int
		want  string
		error api.Errno
	}{
		{most - 3, fmt.Sprint("1:t 1:u | ", most-1, " 0 0 | 0 0 0 | 1"), api.OK},
		{most - 2, fmt.Sprint("1:t | ", most+1, " 0 1 | 0 0 0 | 1"), api.ErrOver},
	} {
		x := begin(t, text, "*", "")
		x.come(1, "p", c.p)
		x.come(1, "q", 1)
		x.instant(1, c.error)
		x.comesTo(-1, c.want)
		// In a place of another engine they do not arrive.
		x = begin(t, text, "*", "p")
		x.come(1, "p", c.p)
		x.come(1, "q", 1)
		x.instant(1, api.OK)
		x.comesTo(-1, fmt.Sprint("1:t 1:u | ", c.p-1, " 0 0 | 0 0 0 | 1"))
		x.tells("1:p*3")
	}
	// What the firing takes is gone first.
	for out, want := range map[int]api.Errno{2: api.OK, 3: api.ErrOver} {
		x := begin(t, fmt.Sprintf("place p; place q; trans t: q, p*2 -> p*%d;", out), "*", "")
		x.come(1, "p", most)
		x.come(1, "q", 1)
		x.instant(1, want)
		x.comesTo(-1, fmt.Sprint("1:t | ", most-2+out, " 0 | 0 0 | 1"))
	}
}

// TestMaxTime: tokens of firings may arrive at MaxTime, and not behind it, also in places of others; such a firing is not
// logged, and takes nothing (P10.2).
func TestMaxTime(t *testing.T) {
	const text = "place p = 1; place q; trans t @5: p -> q;"
	for _, away := range []string{"", "p", "q", "*"} {
		x := begin(t, text, "*", away)
		x.instant(last-5, api.OK)
		if away == "" || away == "p" {
			x.comesTo(last, fmt.Sprintf("%d:t | 0 0 | 0 1 | %d", last-5, last-5))
			x.instant(last, api.OK)
			x.comesTo(-1, fmt.Sprintf("%d:t | 0 1 | 0 0 | %d", last-5, last))
		} else {
			x.tells(fmt.Sprintf("%d:q*1", last))
		}
		for _, time := range []int{last - 4, last, last + 1, math.MaxInt} {
			x := begin(t, text, "*", away)
			x.instant(time, api.ErrOver)
			x.comesTo(-1, fmt.Sprintf("| 1 0 | 0 0 | %d", time))
			x.tells("")
		}
	}
	// Without a delay they arrive in time; where no tokens arrive, none arrive too late.
	x := begin(t, "place p = 1; place q; trans t: p -> q; trans u @5: q ->;", "*", "")
	x.instant(last, api.OK)
	x.comesTo(-1, fmt.Sprintf("%d:t %d:u | 0 0 | 0 0 | %d", last, last, last))
}

// TestMaxInstantOfEngine: a transition may fire twenty times at one Instant, and as often at the next one (P10.2).
func TestMaxInstantOfEngine(t *testing.T) {
	const text = "place p = 20; place q; trans t: p -> q; trans u !1: p ->;"
	x := begin(t, text, "t", "q")
	x.instant(0, api.OK)
	x.comesTo(-1, times(20, 0, "t")+"| 0 0 | 0 0 | 0")
	x.come(5, "p", 20)
	x.instant(5, api.OK)
	x.comesTo(-1, times(20, 0, "t")+times(20, 5, "t")+"| 0 0 | 0 0 | 5")
	x.come(6, "p", 21)
	x.come(7, "p", 1)
	x.instant(6, api.ErrInstant)
	x.comesTo(7, times(20, 0, "t")+times(20, 5, "t")+times(20, 6, "t")+"| 1 0 | 1 0 | 6")
	if l := x.Told(); len(l) != 60 || l[59] != (api.Event{Time: 6, Place: 1, N: 1}) {
		t.Errorf("Told: %d", len(l))
	}
}

// TestMaxFiresOfEngine: an engine may have two thousand firings of its own (P10.2); of the errors of one firing ErrInstant
// comes ahead of the others.
func TestMaxFiresOfEngine(t *testing.T) {
	const text = "place p; place q; place r; trans t: p ->; trans u: q ->; trans v !1: p ->; trans w @1000: r -> r;"
	twoThousand := func() engine {
		x := begin(t, text, "t u w", "")
		for time := range 100 {
			x.come(time, "p", 20)
			x.instant(time, api.OK)
		}
		return x
	}
	x := twoThousand()
	if r := x.Result(); len(r.Log) != api.MaxFires || r.Time != 99 || r.Log[1999] != (api.Fire{Time: 99, Trans: 0}) {
		t.Errorf("%d firings, at last at %d", len(r.Log), r.Time)
	}
	x.instant(100, api.OK)
	for _, place := range []string{"p", "q"} {
		x := twoThousand()
		x.come(200, place, 1)
		x.instant(200, api.ErrLong)
		if r := x.Result(); len(r.Log) != api.MaxFires || r.Time != 200 || r.Marks[net.Place(x.net, place)] != 1 {
			t.Errorf("%d firings, at last at %d, %v", len(r.Log), r.Time, r.Marks)
		}
	}
	x = twoThousand()
	x.come(last, "r", 1)
	x.instant(last, api.ErrLong)
	x = begin(t, text, "t u w", "")
	x.come(last, "r", 1)
	x.instant(last, api.ErrOver)
	x = begin(t, text, "t u w", "")
	for time := range 99 {
		x.come(time, "p", 20)
		x.instant(time, api.OK)
	}
	x.come(last, "p", 21)
	x.instant(last, api.ErrInstant)
}

// TestSeveralErrors: of those that apply to one firing ErrInstant comes first, then ErrLong, then ErrOver for the time
// (P10.2).
func TestSeveralErrors(t *testing.T) {
	for _, fired := range []int{0, api.MaxInstant - 1, api.MaxInstant, api.MaxInstant + 1} {
		for _, logged := range []int{0, api.MaxFires - 1, api.MaxFires, api.MaxFires + 1} {
			for _, time := range []int{0, last - 5, last - 4, last, math.MaxInt} {
				for i := range 2 {
					x := begin(t, "place p; trans t @5: p -> p; trans u @5: p ->;", "*", "")
					x.log, x.time = make([]api.Fire, logged), time
					want := api.OK
					switch {
					case fired >= api.MaxInstant:
						want = api.ErrInstant
					case logged >= api.MaxFires:
						want = api.ErrLong
					case i == 0 && time > last-5:
						want = api.ErrOver
					}
					if got := x.refuse(i, fired); got != want {
						t.Errorf("%d, %d, %d, transition %d: %d, not %d", fired, logged, time, i, got, want)
					}
				}
			}
		}
	}
}

// TestResultsAreNew: what is done to a result is seen in no other one, and not in the engine; and what the engine does then is
// not seen in them (P2 and the rule of memory).
func TestResultsAreNew(t *testing.T) {
	x := begin(t, "place p = 3; place q; place c = 1; trans t @2: p -> q, c; trans u @1: c -> c, p;", "*", "q")
	x.instant(0, api.OK)
	const want = "0:t 0:t 0:t 0:u | 0 0 0 | 1 0 4 | 0"
	for range 3 {
		r := x.Result()
		if got := show(x.net, r); got != want {
			t.Errorf("%s, not %s", got, want)
		}
		_, _, _ = append(r.Log, api.Fire{Time: 9, Trans: 1}), append(r.Marks, 9), append(r.Way, 9)
		clear(r.Log)
		for i := range r.Marks {
			r.Marks[i], r.Way[i] = 55, 66
		}
		if slices.Contains(r.Marks, 66) {
			t.Error("lists of one result share what they hold")
		}
	}
	first, told := x.Result(), x.Told()
	x.instant(1, api.OK)
	if got := show(x.net, first); got != want {
		t.Errorf("a result follows its engine: %s", got)
	}
	if wantTold := slices.Repeat([]api.Event{{Time: 2, Place: 1, N: 1}}, 3); !slices.Equal(told, wantTold) {
		t.Errorf("Told: %v", told)
	}
	_ = append(told, api.Event{Time: 77})
	clear(told)
	x.tells("3:q*1")
}

// TestArgumentsAreNotKept: an engine does not change what it was given, and goes on the same when that is changed later (the
// rule of memory).
func TestArgumentsAreNotKept(t *testing.T) {
	const text = "place p = 1; place q; trans t @2: p, ~q -> q, p; trans u @1: q*9 -> p;"
	n := netOf(t, text)
	before := net.Copy(n)
	mine, away := []bool{true, false}, []bool{false, true}
	x := engine{New(n, mine, away), t, before}
	x.instant(0, api.OK)
	if !net.Equal(n, before) || !slices.Equal(mine, []bool{true, false}) || !slices.Equal(away, []bool{false, true}) {
		t.Errorf("%v, %v, %v", n, mine, away)
	}
	mine[1], away[1] = true, false
	n.Places[0].Tokens = 9
	n.Trans[0].Delay, n.Trans[0].In[0].N, n.Trans[0].Out[0].Place, n.Trans[1].In[0].N = 7, 5, 0, 1
	x.instant(2, api.OK)
	x.comesTo(4, "0:t 2:t | 0 0 | 1 0 | 2")
	x.tells("2:q*1 4:q*1")
}

// TestEnginesApart: what one engine does is not seen in another one of the same net (P2).
func TestEnginesApart(t *testing.T) {
	n := netOf(t, pair)
	trans, places := marked(n, "*", "r")
	x, y := engine{New(n, trans, places), t, n}, engine{New(n, trans, places), t, n}
	x.come(5, "p", 4)
	x.instant(0, api.OK)
	y.comesTo(-1, "| 2 0 1 | 0 0 0 | 0")
	y.tells("")
	y.instant(0, api.OK)
	y.comesTo(1, "0:t 0:t 0:u 0:v | 0 0 0 | 1 4 0 | 0")
	x.comesTo(1, "0:t 0:t 0:u 0:v | 0 0 0 | 5 4 0 | 0")
	x.tells("1:r*1")
	y.tells("1:r*1")
}

// model is an engine by the words of P10.2, without the layers below: it looks at all transitions, again and again.
type model struct {
	net        api.Net
	mine, away []bool
	transit    []api.Event
	told       []api.Event
	result     api.Result
}

func newModel(n api.Net, mine, away []bool) *model {
	m := &model{net: n, mine: mine, away: away}
	for _, p := range n.Places {
		m.result.Marks = append(m.result.Marks, p.Tokens)
		m.result.Way = append(m.result.Way, 0)
	}
	return m
}

func (m *model) come(e api.Event) {
	if e.Place >= 0 && e.Place < len(m.net.Places) {
		m.transit = append(m.transit, e)
		m.result.Way[e.Place] += e.N
	}
}

func (m *model) next() int {
	if len(m.transit) == 0 {
		return -1
	}
	return slices.MinFunc(m.transit, func(a, b api.Event) int { return a.Time - b.Time }).Time
}

// settle adds all tokens in transit that arrive up to the present time, and reports whether no place has too many then.
func (m *model) settle() bool {
	m.transit = slices.DeleteFunc(m.transit, func(e api.Event) bool {
		if e.Time > m.result.Time {
			return false
		}
		m.result.Way[e.Place] -= e.N
		m.result.Marks[e.Place] += e.N
		return true
	})
	return slices.IndexFunc(m.result.Marks, func(x int) bool { return x > most }) < 0
}

// best is the first enabled transition of the lowest priority; -1, if there is none.
func (m *model) best() int {
	best := -1
	for i, t := range m.net.Trans {
		short := func(a api.Arc) bool { return m.result.Marks[a.Place] < a.N }
		full := func(a api.Arc) bool { return m.result.Marks[a.Place] >= a.N }
		if !m.mine[i] || slices.ContainsFunc(t.In, short) || slices.ContainsFunc(t.Not, full) {
			continue
		}
		if best < 0 || t.Prio < m.net.Trans[best].Prio {
			best = i
		}
	}
	return best
}

func (m *model) instant(time int) api.Errno {
	m.result.Time = time
	fired := map[int]int{}
	for {
		if !m.settle() {
			return api.ErrOver
		}
		i := m.best()
		if i < 0 {
			return api.OK
		}
		t := m.net.Trans[i]
		switch {
		case fired[i] == 20:
			return api.ErrInstant
		case len(m.result.Log) == 2000:
			return api.ErrLong
		case len(t.Out) > 0 && time+t.Delay > last:
			return api.ErrOver
		}
		fired[i]++
		m.result.Log = append(m.result.Log, api.Fire{Time: time, Trans: i})
		for _, a := range t.In {
			m.result.Marks[a.Place] -= a.N
		}
		for _, a := range t.Out {
			e := api.Event{Time: time + t.Delay, Place: a.Place, N: a.N}
			if m.away[a.Place] {
				m.told = append(m.told, e)
			} else {
				m.come(e)
			}
		}
	}
}

// chanceNet is a valid net made by chance, of small numbers, so that several things fall on one time. With lively, most
// firings give as much as they take, with a delay, so that a run goes on for long.
func chanceNet(r *rand.Rand, lively bool) api.Net {
	var n api.Net
	for i := range 1 + r.Intn(6) {
		n.Places = append(n.Places, api.Place{Name: fmt.Sprint("p", i), Tokens: r.Intn(5)})
	}
	chance := func(least, count, weight int) (l []api.Arc) {
		order := r.Perm(len(n.Places))
		for _, place := range order[:min(least+r.Intn(count), len(order))] {
			l = append(l, api.Arc{Place: place, N: 1 + r.Intn(weight)})
		}
		return l
	}
	for i := range 1 + r.Intn(8) {
		tr := api.Trans{Name: fmt.Sprint("t", i), Prio: r.Intn(3), Delay: []int{0, 0, 1, 2, 3, 5}[r.Intn(6)]}
		if lively {
			tr.Delay = 1 + r.Intn(4)
			tr.In, tr.Out = chance(1, 2, 1), chance(1, 2, 1)
		} else {
			tr.In, tr.Out = chance(r.Intn(2), 2, 3), chance(0, 3, 3)
		}
		if r.Intn(3) == 0 {
			tr.Not = chance(0, 3, 4)
		}
		n.Trans = append(n.Trans, tr)
	}
	return n
}

// TestChanceAgainstPlain: runs of nets made by chance (P10.1, P2, P5 and the rule of memory).
func TestChanceAgainstPlain(t *testing.T) {
	r := rand.New(rand.NewSource(10))
	ends := map[api.Errno]int{}
	firings := 0
	for i := range 6000 {
		n := chanceNet(r, i%3 == 0)
		horizon := []int{r.Intn(12) - 2, r.Intn(60), 3000}[r.Intn(3)]
		got, e := wantPlain(t, n, horizon)
		ends[e]++
		firings += len(got.Log)
		if t.Failed() {
			return
		}
	}
	if ends[api.OK] < 1000 || ends[api.ErrInstant] < 1000 || ends[api.ErrLong] < 100 || firings < 100000 {
		t.Errorf("the nets are one-sided: ends %v, %d firings", ends, firings)
	}
}

// TestChanceRefused: nets made by chance in which one number is changed, so that most are not valid (P10.1, P1).
func TestChanceRefused(t *testing.T) {
	r := rand.New(rand.NewSource(101))
	ends := map[api.Errno]int{}
	for range 3000 {
		n := chanceNet(r, false)
		tr := &n.Trans[r.Intn(len(n.Trans))]
		numbers := []*int{&n.Places[r.Intn(len(n.Places))].Tokens, &tr.Delay, &tr.Prio}
		for _, list := range [][]api.Arc{tr.In, tr.Not, tr.Out} {
			for i := range list {
				numbers = append(numbers, &list[i].Place, &list[i].N)
			}
		}
		*numbers[r.Intn(len(numbers))] = []int{math.MinInt, -1, 0, 1, 2, 3, 5, api.MaxNum + 1, math.MaxInt}[r.Intn(9)]
		_, e := wantPlain(t, n, 20)
		ends[e]++
		if t.Failed() {
			return
		}
	}
	if ends[api.OK] < 200 || ends[api.ErrOver] < 300 || ends[api.ErrNone] < 100 || ends[api.ErrArg] < 30 {
		t.Errorf("the nets are one-sided: %v", ends)
	}
}

// chanceLists are lists mine and away made by chance: none, some or all.
func chanceLists(r *rand.Rand, n api.Net) ([]bool, []bool) {
	chance := func(count int) []bool {
		l := make([]bool, count)
		odds := r.Intn(5)
		for i := range l {
			l[i] = r.Intn(4) < odds
		}
		return l
	}
	return chance(len(n.Trans)), chance(len(n.Places))
}

// TestChanceAgainstModel: calls made by chance of engines made by chance (P10.2, P2).
func TestChanceAgainstModel(t *testing.T) {
	r := rand.New(rand.NewSource(102))
	ends := map[api.Errno]int{}
	instants, firings, told := 0, 0, 0
	for i := range 8000 {
		n := chanceNet(r, i%3 == 0)
		mine, away := chanceLists(r, n)
		x, m := New(n, mine, away), newModel(n, mine, away)
		now, end := -1, api.OK
		if r.Intn(6) == 0 {
			now = last - r.Intn(20)
		}
		for range 4 + r.Intn(40) {
			switch r.Intn(6) {
			case 0, 1:
				e := api.Event{Time: max(now, 0) + r.Intn(5), Place: r.Intn(len(n.Places)+2) - 1, N: 1 + r.Intn(3)}
				if r.Intn(40) == 0 {
					e.N = most - r.Intn(8)
				}
				x.Come(e)
				m.come(e)
			case 2:
				l := x.Told()
				if !slices.Equal(l, m.told) {
					t.Fatalf("%v, %v, %v: Told %v, not %v", n, mine, away, l, m.told)
				}
				told += len(l)
				m.told = nil
			default:
				now = max(now+1+r.Intn(3)*r.Intn(3), 0)
				if next := x.Next(); r.Intn(2) == 0 && next > now {
					now = next
				}
				end = x.Instant(now)
				if want := m.instant(now); end != want {
					t.Fatalf("%v, %v, %v: Instant(%d) %d, not %d", n, mine, away, now, end, want)
				}
				instants++
			}
			if got := x.Result(); !equal(got, m.result) {
				t.Fatalf("%v, %v, %v: %v, not %v", n, mine, away, got, m.result)
			}
			if x.ready.Len() > len(n.Trans) {
				t.Fatalf("%v: %d transitions wait to be asked", n, x.ready.Len())
			}
			if end != api.OK {
				break
			}
			if got, want := x.Next(), m.next(); got != want {
				t.Fatalf("%v, %v, %v: Next %d, not %d", n, mine, away, got, want)
			}
		}
		ends[end]++
		firings += len(m.result.Log)
	}
	if ends[api.OK] < 1000 || ends[api.ErrInstant] < 1000 || ends[api.ErrOver] < 100 || instants < 30000 || firings < 30000 || told < 3000 {
		t.Errorf("the engines are one-sided: ends %v, %d times, %d firings, %d told", ends, instants, firings, told)
	}
}

// shares divides a net among so many engines: who has each place, and who has each transition. It reports whether each
// transition is with all places at which it looks, and gives to places of others with a delay alone.
func shares(r *rand.Rand, n api.Net, count int) (places, trans []int, good bool) {
	for range n.Places {
		places = append(places, r.Intn(count))
	}
	for _, t := range n.Trans {
		owner := r.Intn(count)
		looks := slices.Concat(t.In, t.Not)
		if len(looks) > 0 {
			owner = places[looks[0].Place]
		} else if t.Delay == 0 && len(t.Out) > 0 {
			owner = places[t.Out[0].Place]
		}
		foreign := func(a api.Arc) bool { return places[a.Place] != owner }
		if slices.ContainsFunc(looks, foreign) || t.Delay == 0 && slices.ContainsFunc(t.Out, foreign) {
			return nil, nil, false
		}
		trans = append(trans, owner)
	}
	return places, trans, true
}

// together runs engines that share a net, which tell one another what comes, each time by time, up to a horizon.
func together(n api.Net, places, trans []int, count, horizon int) ([]*Engine, api.Errno) {
	engines := make([]*Engine, count)
	for k := range engines {
		mine, away := make([]bool, len(trans)), make([]bool, len(places))
		for i, owner := range trans {
			mine[i] = owner == k
		}
		for i, owner := range places {
			away[i] = owner != k
		}
		engines[k] = New(n, mine, away)
	}
	for now := 0; 0 <= now && now <= horizon; {
		next := -1
		for _, x := range engines {
			if e := x.Instant(now); e != api.OK {
				return engines, e
			}
		}
		for _, x := range engines {
			for _, e := range x.Told() {
				engines[places[e.Place]].Come(e)
			}
		}
		for _, x := range engines {
			if t := x.Next(); t >= 0 && (next < 0 || t < next) {
				next = t
			}
		}
		now = next
	}
	return engines, api.OK
}

// TestEnginesTogether: engines that share a net come to what plain.Run comes to: each has the firings of its transitions and
// the tokens of its places (P10.2).
func TestEnginesTogether(t *testing.T) {
	r := rand.New(rand.NewSource(103))
	runs, firings := 0, 0
	for i := range 20000 {
		n, count := chanceNet(r, i%2 == 0), 1+r.Intn(3)
		places, trans, good := shares(r, n, count)
		want, wantError := plain.Run(n, 30)
		if !good || wantError != api.OK {
			continue
		}
		engines, e := together(n, places, trans, count, 30)
		if e != api.OK {
			t.Fatalf("%v among %v, %v: %d", n, places, trans, e)
		}
		for k, x := range engines {
			got := x.Result()
			others := func(f api.Fire) bool { return trans[f.Trans] != k }
			if log := slices.DeleteFunc(slices.Clone(want.Log), others); !slices.Equal(got.Log, log) || got.Time != want.Time {
				t.Fatalf("%v among %v, %v: %d has %v, not %v", n, places, trans, k, got, log)
			}
			for i, owner := range places {
				if owner == k && (got.Marks[i] != want.Marks[i] || got.Way[i] != want.Way[i]) {
					t.Fatalf("%v among %v, %v: %d has %v, not %v", n, places, trans, k, got, want)
				}
			}
		}
		if count > 1 {
			runs++
			firings += len(want.Log)
		}
	}
	if runs < 500 || firings < 5000 {
		t.Errorf("%d runs of several engines, %d firings", runs, firings)
	}
}

// TestGreatNumbers: times and numbers of tokens at the ends of what an int can be panic nowhere (P1).
func TestGreatNumbers(t *testing.T) {
	n := netOf(t, pair)
	ends := []int{math.MinInt, -1, 0, 1, last, math.MaxInt - 1, math.MaxInt}
	for _, time := range ends {
		for _, count := range ends {
			for _, at := range ends {
				x := New(n, []bool{true, true, true}, []bool{false, false, true})
				for range 3 {
					x.Come(api.Event{Time: time, Place: 1, N: count})
				}
				x.Next()
				x.Instant(at)
				x.Instant(at)
				x.Told()
				if r := x.Result(); len(r.Marks) != 3 || len(r.Way) != 3 || r.Time != at {
					t.Errorf("%d tokens at %d, Instant %d: %v", count, time, at, r)
				}
			}
		}
	}
	if r := mark.First(n); !slices.Equal(r, []int{2, 0, 1}) {
		t.Errorf("the net was changed: %v", r)
	}
}
