package print

import (
	"bytes"
	"fmt"
	"math"
	"math/rand"
	"slices"
	"strings"
	"testing"

	"marblerun/api"
	"marblerun/net"
	"marblerun/parse"
)

// wantText: n is printed so, and read back from that (P7.1, P7.2, P5).
func wantText(t *testing.T, n api.Net, want string) {
	t.Helper()
	p, e := Text(n)
	if e != api.OK || string(p) != want {
		t.Errorf("%v: %d %q, not %q", n, e, p, want)
	}
	back, f := parse.Net(p)
	if f != (api.Fault{}) || !net.Equal(back, n) {
		t.Errorf("%q: %v %v, not %v", p, f, back, n)
	}
}

// wantError: n has this error, which is that of net.Check, and nothing is printed (P7.1).
func wantError(t *testing.T, what string, n api.Net, want api.Errno) {
	t.Helper()
	p, e := Text(n)
	if e != want || net.Check(n) != want {
		t.Errorf("%s: %d, not %d (net.Check: %d)", what, e, want, net.Check(n))
	}
	if len(p) != 0 {
		t.Errorf("%s: printed %q beside an error", what, p)
	}
}

// three are the places p, q and r; head is their text.
func three() []api.Place {
	return []api.Place{{Name: "p"}, {Name: "q"}, {Name: "r"}}
}

const head = "place p;\nplace q;\nplace r;\n"

// sample is a valid net, new at each call, in which each list has several elements; sampleText is its text.
func sample() api.Net {
	return api.Net{
		Places: []api.Place{{Name: "p", Tokens: 1}, {Name: "q"}, {Name: "r.1", Tokens: 7}, {Name: "s", Tokens: 30}},
		Trans: []api.Trans{
			{
				Name: "t", Delay: 2, Prio: 1, In: []api.Arc{{Place: 0, N: 2}, {Place: 1, N: 1}},
				Not: []api.Arc{{Place: 2, N: 3}, {Place: 0, N: 1}}, Out: []api.Arc{{Place: 3, N: 1}, {Place: 1, N: 10}},
			},
			{
				Name: "u", Delay: 5, In: []api.Arc{{Place: 3, N: 1}, {Place: 0, N: 1}},
				Not: []api.Arc{{Place: 1, N: 1}, {Place: 3, N: 4}}, Out: []api.Arc{{Place: 2, N: 2}, {Place: 0, N: 1}},
			},
			{
				Name: "v", Prio: 9, In: []api.Arc{{Place: 2, N: 5}, {Place: 3, N: 6}},
				Not: []api.Arc{{Place: 3, N: 1}, {Place: 2, N: 1}}, Out: []api.Arc{{Place: 1, N: 1}, {Place: 3, N: 1}},
			},
		},
	}
}

const sampleText = `place p = 1;
place q;
place r.1 = 7;
place s = 30;
trans t @2 !1: p*2, q, ~r.1*3, ~p -> s, q*10;
trans u @5: s, p, ~q, ~s*4 -> r.1*2, p;
trans v !9: r.1*5, s*6, ~s, ~r.1 -> q, s;
`

// list is one of the three lists of a transition.
func list(t *api.Trans, which int) *[]api.Arc {
	return []*[]api.Arc{&t.In, &t.Not, &t.Out}[which]
}

func TestExamples(t *testing.T) { // P7.1, P7.2
	wantText(t, api.Net{
		Places: []api.Place{{Name: "p"}},
		Trans:  []api.Trans{{Name: "t", Out: []api.Arc{{Place: 0, N: 1}}}},
	}, "place p;\ntrans t: -> p;\n")
	wantText(t, api.Net{
		Places: []api.Place{{Name: "p", Tokens: 3}, {Name: "q"}, {Name: "r"}, {Name: "s"}},
		Trans: []api.Trans{{
			Name: "name", Delay: 2, Prio: 1,
			In: []api.Arc{{Place: 0, N: 2}, {Place: 1, N: 1}}, Not: []api.Arc{{Place: 2, N: 3}}, Out: []api.Arc{{Place: 3, N: 1}},
		}},
	}, "place p = 3;\nplace q;\nplace r;\nplace s;\ntrans name @2 !1: p*2, q, ~r*3 -> s;\n")
	wantText(t, api.Net{
		Places: []api.Place{{Name: "p", Tokens: 1}},
		Trans:  []api.Trans{{Name: "t", Delay: 2, In: []api.Arc{{Place: 0, N: 1}}, Out: []api.Arc{{Place: 0, N: 1}}}},
	}, "place p = 1;\ntrans t @2: p -> p;\n")
	wantText(t, sample(), sampleText)
}

func TestNetsOfNothing(t *testing.T) { // P7.1, P1
	wantText(t, api.Net{}, "")
	wantText(t, api.Net{Places: []api.Place{}, Trans: []api.Trans{}}, "")
}

func TestPlacesAlone(t *testing.T) { // P7.1
	wantText(t, api.Net{Places: []api.Place{{Name: "p"}}}, "place p;\n")
	wantText(t, api.Net{Places: three()}, head)
	wantText(t, api.Net{Places: []api.Place{{Name: "z", Tokens: 2}, {Name: "a"}, {Name: "m", Tokens: 1}}}, "place z = 2;\nplace a;\nplace m = 1;\n")
}

func TestTransitionsAlone(t *testing.T) { // P7.1
	wantText(t, api.Net{Trans: []api.Trans{{Name: "t"}}}, "trans t: ->;\n")
	wantText(t, api.Net{Trans: []api.Trans{{Name: "z", Delay: 3}, {Name: "a"}, {Name: "m", Prio: 4}}}, "trans z @3: ->;\ntrans a: ->;\ntrans m !4: ->;\n")
	// Empty lists are as nil ones.
	wantText(t, api.Net{Trans: []api.Trans{{Name: "t", In: []api.Arc{}, Not: []api.Arc{}, Out: []api.Arc{}}}}, "trans t: ->;\n")
}

// numbers are those at the edges and between, and some whose digits are easily lost.
var numbers = []int{0, 1, 2, 9, 10, 11, 99, 100, 101, 1000, 65536, 100000, 999999, 1000000}

func TestTokens(t *testing.T) { // P7.1, P7.2
	for _, x := range numbers {
		line := fmt.Sprintf("place p = %d;\n", x)
		if x == 0 {
			line = "place p;\n"
		}
		wantText(t, api.Net{Places: []api.Place{{Name: "p", Tokens: x}}}, line)
		wantText(t, api.Net{Places: []api.Place{{Name: "a"}, {Name: "p", Tokens: x}, {Name: "b", Tokens: 5}}}, "place a;\n"+line+"place b = 5;\n")
	}
}

func TestDelaysAndPriorities(t *testing.T) { // P7.1, P7.2
	for _, delay := range numbers {
		for _, prio := range numbers {
			line := "trans t"
			if delay > 0 {
				line += fmt.Sprint(" @", delay)
			}
			if prio > 0 {
				line += fmt.Sprint(" !", prio)
			}
			wantText(t, api.Net{Trans: []api.Trans{{Name: "t", Delay: delay, Prio: prio}}}, line+": ->;\n")
			wantText(t, api.Net{
				Places: three(),
				Trans:  []api.Trans{{Name: "t", Delay: delay, Prio: prio, In: []api.Arc{{Place: 0, N: 1}}, Out: []api.Arc{{Place: 1, N: 1}}}},
			}, head+line+": p -> q;\n")
		}
	}
}

// TestN: in each list, alone and beside others (P7.1, P7.2).
func TestN(t *testing.T) {
	for _, x := range numbers[1:] {
		times := fmt.Sprint("*", x)
		if x == 1 {
			times = ""
		}
		for which, want := range []string{"q# ->", "~q# ->", "-> q#"} {
			n := api.Net{Places: three(), Trans: []api.Trans{{Name: "t"}}}
			*list(&n.Trans[0], which) = []api.Arc{{Place: 1, N: x}}
			wantText(t, n, head+"trans t: "+strings.ReplaceAll(want, "#", times)+";\n")
		}
		for which, want := range []string{"r, q#, p*2 ->", "~r, ~q#, ~p*2 ->", "-> r, q#, p*2"} {
			n := api.Net{Places: three(), Trans: []api.Trans{{Name: "t"}}}
			*list(&n.Trans[0], which) = []api.Arc{{Place: 2, N: 1}, {Place: 1, N: x}, {Place: 0, N: 2}}
			wantText(t, n, head+"trans t: "+strings.ReplaceAll(want, "#", times)+";\n")
		}
	}
}

// TestEmptyLists: each of the lists, empty and not (P7.1).
func TestEmptyLists(t *testing.T) {
	for i, want := range []string{
		"trans t: ->;", "trans t: p ->;", "trans t: ~q ->;", "trans t: p, ~q ->;",
		"trans t: -> r;", "trans t: p -> r;", "trans t: ~q -> r;", "trans t: p, ~q -> r;",
	} {
		n := api.Net{Places: three(), Trans: []api.Trans{{Name: "t"}}}
		for which := range 3 {
			if i>>which&1 == 1 {
				*list(&n.Trans[0], which) = []api.Arc{{Place: which, N: 1}}
			}
		}
		wantText(t, n, head+want+"\n")
		n.Trans[0].Delay, n.Trans[0].Prio = 12, 34
		wantText(t, n, head+strings.Replace(want, "t:", "t @12 !34:", 1)+"\n")
	}
}

// TestOrderOfArcs: each list keeps its own, and In stands ahead of Not (P7.1, P7.2).
func TestOrderOfArcs(t *testing.T) {
	orders := [][]int{{0, 1, 2}, {0, 2, 1}, {1, 0, 2}, {1, 2, 0}, {2, 0, 1}, {2, 1, 0}, {1, 0}, {2}, nil}
	names := []string{"p", "q", "r"}
	arcs := func(order []int, factor int, mark string) (l []api.Arc, text []string) {
		for i, place := range order {
			l = append(l, api.Arc{Place: place, N: factor * (i + 2)})
			text = append(text, fmt.Sprint(mark, names[place], "*", factor*(i+2)))
		}
		return l, text
	}
	ahead := func(l []string) string {
		if len(l) == 0 {
			return ""
		}
		return " " + strings.Join(l, ", ")
	}
	for _, a := range orders {
		for _, b := range orders {
			for _, c := range orders {
				in, looks := arcs(a, 1, "")
				not, more := arcs(b, 10, "~")
				out, outs := arcs(c, 100, "")
				n := api.Net{Places: three(), Trans: []api.Trans{{Name: "t", In: in, Not: not, Out: out}}}
				wantText(t, n, head+"trans t:"+ahead(append(looks, more...))+" ->"+ahead(outs)+";\n")
			}
		}
	}
}

// TestOrderOfLines: places ahead of transitions, each in the order of their numbers, whatever their names are (P7.1).
func TestOrderOfLines(t *testing.T) {
	n := api.Net{
		Places: []api.Place{{Name: "z"}, {Name: "b"}, {Name: "y"}},
		Trans:  []api.Trans{{Name: "x", Out: []api.Arc{{Place: 2, N: 1}}}, {Name: "a", In: []api.Arc{{Place: 1, N: 1}}}, {Name: "c", Not: []api.Arc{{Place: 0, N: 1}}}},
	}
	wantText(t, n, "place z;\nplace b;\nplace y;\ntrans x: -> y;\ntrans a: b ->;\ntrans c: ~z ->;\n")
	slices.Reverse(n.Places)
	slices.Reverse(n.Trans)
	wantText(t, n, "place y;\nplace b;\nplace z;\ntrans c: ~y ->;\ntrans a: b ->;\ntrans x: -> z;\n")
}

func TestNames(t *testing.T) { // P7.1, P7.2
	for _, name := range []string{
		"a", "z", "a.", "a9", "a0", "p.1.2", "abcdefghijkl", "zzzzzzzzzzzz", "a...........", "a.0.1.2.3.4.", "a99999999999", "place", "trans", "place.", "trans1", "net",
	} {
		wantText(t, api.Net{Places: []api.Place{{Name: name, Tokens: 4}}}, "place "+name+" = 4;\n")
		wantText(t, api.Net{Trans: []api.Trans{{Name: name, Delay: 4}}}, "trans "+name+" @4: ->;\n")
		one := []api.Arc{{Place: 1, N: 1}}
		two := []api.Arc{{Place: 0, N: 2}, {Place: 1, N: 2}}
		wantText(t, api.Net{
			Places: []api.Place{{Name: "b"}, {Name: name}},
			Trans:  []api.Trans{{Name: "t", In: one, Not: one, Out: one}, {Name: "u", In: two, Not: two, Out: two}},
		}, strings.ReplaceAll("place b;\nplace #;\ntrans t: #, ~# -> #;\ntrans u: b*2, #*2, ~b*2, ~#*2 -> b*2, #*2;\n", "#", name))
	}
	// The words of items are names as others are, also beside one another.
	both := []api.Arc{{Place: 0, N: 1}, {Place: 1, N: 1}}
	wantText(t, api.Net{
		Places: []api.Place{{Name: "place"}, {Name: "p", Tokens: 1}},
		Trans:  []api.Trans{{Name: "trans", In: both, Not: both, Out: both}},
	}, "place place;\nplace p = 1;\ntrans trans: place, p, ~place, ~p -> place, p;\n")
	wantText(t, api.Net{
		Places: []api.Place{{Name: "trans"}, {Name: "p"}},
		Trans:  []api.Trans{{Name: "place", In: both, Not: both, Out: both}},
	}, "place trans;\nplace p;\ntrans place: trans, p, ~trans, ~p -> trans, p;\n")
}

// full is a net of as many places, transitions and arcs as may be, with names of MaxName bytes and the greatest numbers.
func full() api.Net {
	var n api.Net
	for i := range api.MaxPlaces {
		n.Places = append(n.Places, api.Place{Name: fmt.Sprintf("place.%06d", i), Tokens: api.MaxNum})
	}
	for i := range api.MaxTrans {
		t := api.Trans{Name: fmt.Sprintf("trans.%06d", i), Delay: api.MaxNum, Prio: api.MaxNum}
		for j := range api.MaxArcs {
			t.In = append(t.In, api.Arc{Place: (i + j) % 32, N: api.MaxNum})
			t.Not = append(t.Not, api.Arc{Place: (i + 2*j) % 32, N: api.MaxNum - 1})
			t.Out = append(t.Out, api.Arc{Place: (i + 31*j) % 32, N: api.MaxNum - 2})
		}
		n.Trans = append(n.Trans, t)
	}
	return n
}

// model is the text of a valid net by the words of the chapter: each line made of pieces, those that are not asked for left
// out.
func model(n api.Net) string {
	part := func(sign string, x, above int) string {
		if x > above {
			return fmt.Sprint(sign, x)
		}
		return ""
	}
	arcs := func(mark string, list []api.Arc) (l []string) {
		for _, a := range list {
			l = append(l, mark+n.Places[a.Place].Name+part("*", a.N, 1))
		}
		return l
	}
	text := ""
	for _, p := range n.Places {
		text += "place " + p.Name + part(" = ", p.Tokens, 0) + ";\n"
	}
	for _, t := range n.Trans {
		line := []string{"trans " + t.Name + part(" @", t.Delay, 0) + part(" !", t.Prio, 0) + ":"}
		if looks := append(arcs("", t.In), arcs("~", t.Not)...); len(looks) > 0 {
			line = append(line, strings.Join(looks, ", "))
		}
		line = append(line, "->")
		if outs := arcs("", t.Out); len(outs) > 0 {
			line = append(line, strings.Join(outs, ", "))
		}
		text += strings.Join(line, " ") + ";\n"
	}
	return text
}

func TestAsManyAsMayBe(t *testing.T) { // P7.1, P7.2
	n := full()
	wantText(t, n, model(n))
	wantText(t, api.Net{Places: n.Places}, model(api.Net{Places: n.Places}))
	p, _ := Text(n)
	lines := strings.Split(string(p), "\n")
	if len(lines) != 65 || lines[64] != "" {
		t.Error("not 64 lines, each with its end")
	}
	if lines[31] != "place place.000031 = 1000000;" {
		t.Errorf("the last place: %q", lines[31])
	}
	want := "trans trans.000031 @1000000 !1000000: place.000031*1000000, place.000000*1000000, place.000001*1000000, "
	if !strings.HasPrefix(lines[63], want) {
		t.Errorf("the last transition: %q", lines[63])
	}
	want = "~place.000013*999999 -> place.000031*999998, place.000030*999998, place.000029*999998, place.000028*999998, " +
		"place.000027*999998, place.000026*999998, place.000025*999998, place.000024*999998;"
	if !strings.HasSuffix(lines[63], want) {
		t.Errorf("the last transition: %q", lines[63])
	}
	// One too many is printed nowhere.
	for which := range 3 {
		n := full()
		l := list(&n.Trans[31], which)
		*l = append(*l, api.Arc{Place: 20, N: 1})
		wantError(t, fmt.Sprint("9 arcs in list ", which), n, api.ErrLong)
	}
	n = full()
	n.Places = append(n.Places, api.Place{Name: "x"})
	wantError(t, "33 places", n, api.ErrLong)
	n = full()
	n.Trans = append(n.Trans, api.Trans{Name: "x"})
	wantError(t, "33 transitions", n, api.ErrLong)
}

// TestLines: each line has one end, the byte 0a, and no blank ahead of that or beside another blank (P7.1).
func TestLines(t *testing.T) {
	r := rand.New(rand.NewSource(70))
	for range 2000 {
		n := chanceNet(r)
		p, e := Text(n)
		if e != api.OK || bytes.Count(p, []byte{10}) != len(n.Places)+len(n.Trans) {
			t.Fatalf("%v: %d %q", n, e, p)
		}
		for line := range bytes.Lines(p) {
			if !bytes.HasSuffix(line, []byte(";\n")) || bytes.Contains(line, []byte(" ;")) || bytes.Contains(line, []byte("  ")) || bytes.ContainsAny(line, "\t\r#") {
				t.Fatalf("line %q", line)
			}
		}
	}
}

// chanceNet is a valid net made by chance, its numbers often at the edges.
func chanceNet(r *rand.Rand) api.Net {
	var n api.Net
	names := chanceNames(r, 64)
	number := func(least int) int {
		if r.Intn(2) == 0 {
			return least + r.Intn(3)
		}
		return least + r.Intn(api.MaxNum-least+1)
	}
	for i := range r.Intn(1 + []int{3, 10, 32}[r.Intn(3)]) {
		n.Places = append(n.Places, api.Place{Name: names[i], Tokens: number(0)})
	}
	arcs := func() (l []api.Arc) {
		order := r.Perm(len(n.Places))
		for _, place := range order[:r.Intn(min(len(order), api.MaxArcs)+1)] {
			l = append(l, api.Arc{Place: place, N: number(1)})
		}
		return l
	}
	for i := range r.Intn(1 + []int{3, 10, 32}[r.Intn(3)]) {
		n.Trans = append(n.Trans, api.Trans{Name: names[32+i], Delay: number(0), Prio: number(0), In: arcs(), Not: arcs(), Out: arcs()})
	}
	return n
}

// chanceNames are names of which no two are equal, place and trans among them now and then.
func chanceNames(r *rand.Rand, count int) []string {
	const first, all = "abcdefghijklmnopqrstuvwxyz", "abcdefghijklmnopqrstuvwxyz0123456789."
	var names []string
	for len(names) < count {
		name := []byte{first[r.Intn(len(first))]}
		for range r.Intn(api.MaxName) {
			name = append(name, all[r.Intn(len(all))])
		}
		if !slices.Contains(names, string(name)) {
			names = append(names, string(name))
		}
	}
	if r.Intn(3) == 0 {
		at := r.Perm(count)
		names[at[0]], names[at[1]] = "place", "trans"
	}
	return names
}

func TestChanceNetsAgainstModel(t *testing.T) { // P7.1, P7.2
	r := rand.New(rand.NewSource(7))
	for range 5000 {
		n := chanceNet(r)
		wantText(t, n, model(n))
		if t.Failed() {
			return
		}
	}
}

// harm is a change of the sample that makes it invalid, and the error.
type harm struct {
	what string
	do   func(n *api.Net)
	want api.Errno
}

// harms are all kinds of errors that net.Check has.
func harms() []harm {
	l := []harm{
		{"33 places", func(n *api.Net) { n.Places = make([]api.Place, 33) }, api.ErrLong},
		{"33 transitions", func(n *api.Net) { n.Trans = make([]api.Trans, 33) }, api.ErrLong},
		{"a place without a name", func(n *api.Net) { n.Places[3].Name = "" }, api.ErrName},
		{"a place with a capital", func(n *api.Net) { n.Places[0].Name = "P" }, api.ErrName},
		{"a place with a blank", func(n *api.Net) { n.Places[1].Name = "p q" }, api.ErrName},
		{"a place with a line's end", func(n *api.Net) { n.Places[1].Name = "x\n" }, api.ErrName},
		{"a place with a long name", func(n *api.Net) { n.Places[1].Name = "abcdefghijklm" }, api.ErrName},
		{"a transition without a name", func(n *api.Net) { n.Trans[2].Name = "" }, api.ErrName},
		{"a transition with a digit first", func(n *api.Net) { n.Trans[0].Name = "1t" }, api.ErrName},
		{"a transition with an ending", func(n *api.Net) { n.Trans[0].Name = "x;" }, api.ErrName},
		{"a transition with a long name", func(n *api.Net) { n.Trans[1].Name = "abcdefghijklm" }, api.ErrName},
		{"a name of two places", func(n *api.Net) { n.Places[3].Name = "p" }, api.ErrName},
		{"a name of two transitions", func(n *api.Net) { n.Trans[2].Name = "t" }, api.ErrName},
		{"a name of a place and a transition", func(n *api.Net) { n.Trans[2].Name = "p" }, api.ErrName},
	}
	for _, x := range []int{math.MinInt, -1000000, -1, 1000001, 1 << 40, math.MaxInt} {
		l = append(l,
			harm{fmt.Sprint("tokens ", x), func(n *api.Net) { n.Places[3].Tokens = x }, api.ErrOver},
			harm{fmt.Sprint("delay ", x), func(n *api.Net) { n.Trans[2].Delay = x }, api.ErrOver},
			harm{fmt.Sprint("priority ", x), func(n *api.Net) { n.Trans[2].Prio = x }, api.ErrOver})
	}
	for which := range 3 {
		arc := func(n *api.Net) *api.Arc { return &(*list(&n.Trans[2], which))[1] }
		for _, x := range []int{math.MinInt, -1, 0, 1000001, math.MaxInt} {
			l = append(l, harm{fmt.Sprint("N ", x, " in list ", which), func(n *api.Net) { arc(n).N = x }, api.ErrOver})
		}
		for _, x := range []int{math.MinInt, -1, 4, 32, math.MaxInt} {
			l = append(l, harm{fmt.Sprint("place ", x, " in list ", which), func(n *api.Net) { arc(n).Place = x }, api.ErrNone})
		}
		l = append(l,
			harm{fmt.Sprint("a place twice in list ", which), func(n *api.Net) { arc(n).Place = (*list(&n.Trans[2], which))[0].Place }, api.ErrArg},
			harm{fmt.Sprint("9 arcs in list ", which), func(n *api.Net) { *list(&n.Trans[2], which) = make([]api.Arc, 9) }, api.ErrLong})
	}
	return l
}

func TestErrors(t *testing.T) { // P7.1, P1
	for _, h := range harms() {
		n := sample()
		h.do(&n)
		wantError(t, h.what, n, h.want)
	}
	wantError(t, "an arc without places", api.Net{Trans: []api.Trans{{Name: "t", In: []api.Arc{{Place: 0, N: 1}}}}}, api.ErrNone)
	wantError(t, "very many places", api.Net{Places: make([]api.Place, 1<<20)}, api.ErrLong)
	wantError(t, "very many transitions", api.Net{Trans: make([]api.Trans, 1<<18)}, api.ErrLong)
	wantError(t, "a very long name", api.Net{Places: []api.Place{{Name: strings.Repeat("a", 1<<20)}}}, api.ErrName)
}

// TestTwoErrors: of several errors the one that net.Check tells (P7.1).
func TestTwoErrors(t *testing.T) {
	all := harms()
	for _, a := range all {
		for _, b := range all {
			// One that makes anew what the other one changes does away with that, or finds nothing to change.
			if a.want == api.ErrLong || b.want == api.ErrLong {
				continue
			}
			n := sample()
			a.do(&n)
			b.do(&n)
			if e := net.Check(n); e != api.OK {
				wantError(t, a.what+", "+b.what, n, e)
			}
		}
	}
	n := full()
	n.Places = append(n.Places, api.Place{Name: "P"})
	n.Trans[0].In[0] = api.Arc{Place: -1, N: -1}
	wantError(t, "33 places and more", n, api.ErrLong)
}

// TestArgumentsStay: a net is not changed, not even behind the ends of its slices, and has the same text at each call (P2
// and the rule of memory).
func TestArgumentsStay(t *testing.T) {
	n := sample()
	for i := range n.Trans {
		for which := range 3 {
			l := list(&n.Trans[i], which)
			*l = append(*l, api.Arc{Place: 77, N: 78})[:2]
		}
	}
	n.Places = append(n.Places, api.Place{Name: "Z", Tokens: -9})[:4]
	for range 3 {
		wantText(t, n, sampleText)
		wantText(t, api.Net{}, "")
		wantError(t, "an error between", api.Net{Places: []api.Place{{}}}, api.ErrName)
	}
	if !net.Equal(n, sample()) || n.Places[:5][4] != (api.Place{Name: "Z", Tokens: -9}) {
		t.Error("the net was changed")
	}
	for i := range n.Trans {
		for which := range 3 {
			if l := *list(&n.Trans[i], which); l[:3][2] != (api.Arc{Place: 77, N: 78}) {
				t.Error("a list was changed behind its end")
			}
		}
	}
}

// TestTextsShareNothing: a text stays as it is when another one is made, changed or appended to, and when the net is changed
// (P2 and the rule of memory).
func TestTextsShareNothing(t *testing.T) {
	n := sample()
	p, _ := Text(n)
	q, _ := Text(n)
	for i := range q {
		q[i] = 'x'
	}
	q = append(q[:1], "yyyyyyyyyyyyyyyyyyyy"...)
	n.Places[0] = api.Place{Name: "changed", Tokens: 5}
	n.Trans[0].In[0] = api.Arc{Place: 3, N: 99}
	r, _ := Text(n)
	if string(p) != sampleText || q[0] != 'x' {
		t.Errorf("changed: %q", p)
	}
	if want := model(n); string(r) != want {
		t.Errorf("%q, not %q", r, want)
	}
}

// TestReadAndWritten: what is read from a text of any form is printed in one form, which is printed as itself (P5).
func TestReadAndWritten(t *testing.T) {
	for text, want := range map[string]string{
		"":            "",
		"# nothing\n": "",
		"place p=0;":  "place p;\n",
		"trans t@0!0:~p*1,p*01->p*1;place p=007;":                       "place p = 7;\ntrans t: p, ~p -> p;\n",
		"trans b:->;\nplace q;trans a : ~p,q -> ;place p;":              "place q;\nplace p;\ntrans b: ->;\ntrans a: q, ~p ->;\n",
		"trans t: ~r*3, p*2, ~p, q->s;place p;place q;place r;place s;": "place p;\nplace q;\nplace r;\nplace s;\ntrans t: p*2, q, ~r*3, ~p -> s;\n",
		sampleText: sampleText,
	} {
		n, f := parse.Net([]byte(text))
		if f != (api.Fault{}) {
			t.Errorf("%q: %v", text, f)
		}
		wantText(t, n, want)
	}
}
