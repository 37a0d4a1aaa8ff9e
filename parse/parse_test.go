package parse

import (
	"fmt"
	"math/rand"
	"slices"
	"strings"
	"testing"

	"marblerun/api"
	"marblerun/lex"
	"marblerun/net"
)

// brief is a text for a message, however long it is.
func brief(s string) string {
	if len(s) > 200 {
		return fmt.Sprintf("%q .. %q (%d bytes)", s[:80], s[len(s)-80:], len(s))
	}
	return fmt.Sprintf("%q", s)
}

// faultAt is the fault e at an offset of a text.
func faultAt(s string, e api.Errno, at int) api.Fault {
	lines := strings.Split(s[:at], "\n")
	return api.Fault{Err: e, At: at, Line: len(lines), Col: len(lines[len(lines)-1]) + 1}
}

// wantNet: s is this net, which is valid, and beside it all of the fault is 0.
func wantNet(t *testing.T, s string, want api.Net) {
	t.Helper()
	n, f := Net([]byte(s))
	if f != (api.Fault{}) {
		t.Errorf("%s: fault %v", brief(s), f)
		return
	}
	if !net.Equal(n, want) {
		t.Errorf("%s: %v, not %v", brief(s), n, want)
	}
	if e := net.Check(n); e != api.OK {
		t.Errorf("%s: a net with error %d", brief(s), e)
	}
}

// wantFault: s, without the ^ in it, has the fault e at the ^, and beside it there is no net.
func wantFault(t *testing.T, s string, e api.Errno) {
	t.Helper()
	before, after, found := strings.Cut(s, "^")
	if !found {
		t.Fatalf("%s: no ^", brief(s))
	}
	n, f := Net([]byte(before + after))
	if want := faultAt(before+after, e, len(before)); f != want {
		t.Errorf("%s: fault %v, not %v", brief(s), f, want)
	}
	if len(n.Places) != 0 || len(n.Trans) != 0 {
		t.Errorf("%s: a net beside a fault: %v", brief(s), n)
	}
}

// places are n places p0, p1, .. as text, and names their names, each behind a mark, separated by commas.
func places(n int) string {
	var b strings.Builder
	for i := range n {
		fmt.Fprintf(&b, "place p%d;\n", i)
	}
	return b.String()
}

func names(n int, mark string) string {
	var l []string
	for i := range n {
		l = append(l, fmt.Sprint(mark, "p", i))
	}
	return strings.Join(l, ", ")
}

func transitions(n int) string {
	var b strings.Builder
	for i := range n {
		fmt.Fprintf(&b, "trans t%d: -> ;\n", i)
	}
	return b.String()
}

func TestExample(t *testing.T) { // P6.1
	wantNet(t, "place p = 1; trans t @2: p -> p;", api.Net{
		Places: []api.Place{{Name: "p", Tokens: 1}},
		Trans:  []api.Trans{{Name: "t", Delay: 2, In: []api.Arc{{Place: 0, N: 1}}, Out: []api.Arc{{Place: 0, N: 1}}}},
	})
}

func TestEmptyTexts(t *testing.T) { // P6.1, P1
	for _, s := range []string{"", " ", "\n", "\t\r\n ", "#", "# place p;", "# a\n", "\n\n# ?\n # 9999999999999999\n", strings.Repeat("#\n", 100000)} {
		wantNet(t, s, api.Net{})
	}
	if n, f := Net(nil); f != (api.Fault{}) || len(n.Places) != 0 || len(n.Trans) != 0 {
		t.Error(n, f)
	}
}

func TestSeparators(t *testing.T) { // P6.1
	want := api.Net{
		Places: []api.Place{{Name: "p", Tokens: 10}, {Name: "q"}},
		Trans: []api.Trans{{
			Name: "t", Delay: 2, Prio: 1,
			In: []api.Arc{{Place: 0, N: 3}, {Place: 1, N: 1}}, Not: []api.Arc{{Place: 1, N: 4}}, Out: []api.Arc{{Place: 1, N: 2}, {Place: 0, N: 1}},
		}},
	}
	wantNet(t, "place p=10;place q;trans t@2!1:p*3,~q*4,q->q*2,p;", want)
	tokens := strings.Fields("place p = 10 ; place q ; trans t @ 2 ! 1 : p * 3 , ~ q * 4 , q -> q * 2 , p ;")
	for _, gap := range []string{" ", "\n", "\t", "\r\n", "  ", "#\n", " # place x; ?\n", "\n\n"} {
		wantNet(t, gap+strings.Join(tokens, gap)+gap, want)
	}
}

// TestPlaceParts: a place's optional part, there and not there (P6.1).
func TestPlaceParts(t *testing.T) {
	wantNet(t, "place p;", api.Net{Places: []api.Place{{Name: "p"}}})
	wantNet(t, "place p = 3;", api.Net{Places: []api.Place{{Name: "p", Tokens: 3}}})
	wantNet(t, "place p = 0;", api.Net{Places: []api.Place{{Name: "p"}}})
	wantNet(t, "place p; place q = 2; place r; place a = 7;", api.Net{Places: []api.Place{{Name: "p"}, {Name: "q", Tokens: 2}, {Name: "r"}, {Name: "a", Tokens: 7}}})
}

// TestTransParts: each choice of a transition's optional parts, there and not there (P6.1).
func TestTransParts(t *testing.T) {
	lists := []struct {
		text string
		arcs []api.Arc
	}{
		{"", nil},
		{"q", []api.Arc{{Place: 1, N: 1}}},
		{"q*5", []api.Arc{{Place: 1, N: 5}}},
		{"r*2, MARKp", []api.Arc{{Place: 2, N: 2}, {Place: 0, N: 1}}},
		{"q, MARKp*7, MARKr", []api.Arc{{Place: 1, N: 1}, {Place: 0, N: 7}, {Place: 2, N: 1}}},
	}
	mark := func(text, mark string) string {
		if text == "" {
			return ""
		}
		return mark + strings.ReplaceAll(text, "MARK", mark)
	}
	for _, delay := range []int{-1, 0, 4} {
		for _, prio := range []int{-1, 0, 9} {
			for _, in := range lists {
				for _, not := range lists {
					for _, out := range lists {
						head := "trans t"
						if delay >= 0 {
							head += fmt.Sprint(" @", delay)
						}
						if prio >= 0 {
							head += fmt.Sprint(" !", prio)
						}
						looks := slices.DeleteFunc([]string{mark(in.text, ""), mark(not.text, "~")}, func(s string) bool { return s == "" })
						want := api.Net{
							Places: []api.Place{{Name: "p"}, {Name: "q"}, {Name: "r"}},
							Trans:  []api.Trans{{Name: "t", Delay: max(delay, 0), Prio: max(prio, 0), In: in.arcs, Not: not.arcs, Out: out.arcs}},
						}
						wantNet(t, "place p; place q; place r;"+head+": "+strings.Join(looks, ", ")+" -> "+mark(out.text, "")+";", want)
						slices.Reverse(looks)
						wantNet(t, head+": "+strings.Join(looks, ", ")+" -> "+mark(out.text, "")+";place p; place q; place r;", want)
					}
				}
			}
		}
	}
}

// TestLooksMixed: ~ marks one arc, and the arcs of each list keep their order (P6.1).
func TestLooksMixed(t *testing.T) {
	wantNet(t, places(5)+"trans t: ~p4*2, p1, ~p0, p3*6, p0, ~p1 -> ;", api.Net{
		Places: []api.Place{{Name: "p0"}, {Name: "p1"}, {Name: "p2"}, {Name: "p3"}, {Name: "p4"}},
		Trans: []api.Trans{{
			Name: "t",
			In:   []api.Arc{{Place: 1, N: 1}, {Place: 3, N: 6}, {Place: 0, N: 1}},
			Not:  []api.Arc{{Place: 4, N: 2}, {Place: 0, N: 1}, {Place: 1, N: 1}},
		}},
	})
}

// TestPlacesNamedAhead: an arc may name a place that stands behind it, and places are numbered as they stand, not as they
// are named (P6.1).
func TestPlacesNamedAhead(t *testing.T) {
	want := api.Net{
		Places: []api.Place{{Name: "a", Tokens: 1}, {Name: "b", Tokens: 2}, {Name: "c", Tokens: 3}},
		Trans: []api.Trans{
			{Name: "t", In: []api.Arc{{Place: 2, N: 1}}, Not: []api.Arc{{Place: 1, N: 1}}, Out: []api.Arc{{Place: 0, N: 1}}},
			{Name: "u", In: []api.Arc{{Place: 0, N: 1}}, Not: []api.Arc{{Place: 2, N: 1}}, Out: []api.Arc{{Place: 1, N: 1}}},
		},
	}
	items := []string{"place a = 1;", "place b = 2;", "place c = 3;", "trans t: c, ~b -> a;", "trans u: a, ~c -> b;"}
	for _, order := range []string{"01234", "34012", "30412", "03142", "30124", "03412", "01342"} {
		s := ""
		for _, i := range order {
			s += items[i-'0'] + "\n"
		}
		wantNet(t, s, want)
	}
	wantNet(t, items[4]+items[3]+items[2]+items[1]+items[0], api.Net{
		Places: []api.Place{{Name: "c", Tokens: 3}, {Name: "b", Tokens: 2}, {Name: "a", Tokens: 1}},
		Trans: []api.Trans{
			{Name: "u", In: []api.Arc{{Place: 2, N: 1}}, Not: []api.Arc{{Place: 0, N: 1}}, Out: []api.Arc{{Place: 1, N: 1}}},
			{Name: "t", In: []api.Arc{{Place: 0, N: 1}}, Not: []api.Arc{{Place: 1, N: 1}}, Out: []api.Arc{{Place: 2, N: 1}}},
		},
	})
	// A comment declares nothing.
	wantFault(t, "trans t: ^q -> ; # place q;", api.ErrName)
	wantFault(t, "trans t: -> ^q; place # q\n;", api.ErrName)
	// Neither does a transition, nor a name in an arc.
	wantFault(t, "trans q: -> ; trans t: ^q -> ;", api.ErrName)
	wantFault(t, "trans t: ^q -> ; trans q: -> ;", api.ErrName)
	wantFault(t, "place p; trans t: p -> ^q; trans u: q -> q;", api.ErrName)
	// A name that was used ahead of its place is not used up by that.
	wantFault(t, "trans t: p -> ; trans p: -> ; place ^p;", api.ErrName)
}

// TestOccurrences: places are those of all occurrences of place Word, also where a fault is behind (P6.1, P6.2).
func TestOccurrences(t *testing.T) {
	wantFault(t, "trans t: q -> ; place q ^", api.ErrSyntax)
	wantFault(t, "trans t: q -> ; place q = ^1000001;", api.ErrOver)
	wantFault(t, "trans t: q -> ^, ; place q;", api.ErrSyntax)
	wantFault(t, "trans t: q -> ; ^p; place q;", api.ErrSyntax)
	wantFault(t, "trans t: q -> ; place p ^place q;", api.ErrSyntax)
	wantFault(t, "trans t: q -> ; place place ^q;", api.ErrSyntax)
	wantFault(t, "trans t: q -> ; trans place ^q;", api.ErrSyntax)
	wantFault(t, "trans t: ^q -> ; trans t: place, q -> ;", api.ErrName)
	// A name that may not be is that of a place, until it is reached where it stands.
	wantFault(t, "trans t: abcdefghijklm -> ; place ^abcdefghijklm;", api.ErrName)
	wantFault(t, "trans t: ^abcdefghijklm -> ; place abcdefghijkl;", api.ErrName)
	// Those beyond MaxPlaces as well.
	wantFault(t, "trans t: p39 -> p32; "+places(32)+"place ^p32; place p39;", api.ErrLong)
	// The first one of each name counts, another one does not.
	wantFault(t, "trans t: b -> c; place a; place b; place ^a; place c;", api.ErrName)
}

// TestWordsOfItemsAsNames: place and trans are Words as others are (P6.1).
func TestWordsOfItemsAsNames(t *testing.T) {
	wantNet(t, "place place = 2; place trans; trans t: place, ~trans -> trans*2, place;", api.Net{
		Places: []api.Place{{Name: "place", Tokens: 2}, {Name: "trans"}},
		Trans: []api.Trans{{
			Name: "t", In: []api.Arc{{Place: 0, N: 1}}, Not: []api.Arc{{Place: 1, N: 1}}, Out: []api.Arc{{Place: 1, N: 2}, {Place: 0, N: 1}},
		}},
	})
	wantNet(t, "trans place: -> ; trans trans @1: -> p; place p;", api.Net{
		Places: []api.Place{{Name: "p"}},
		Trans:  []api.Trans{{Name: "place"}, {Name: "trans", Delay: 1, Out: []api.Arc{{Place: 0, N: 1}}}},
	})
	wantNet(t, "trans trans: place -> place; place place;", api.Net{
		Places: []api.Place{{Name: "place"}},
		Trans:  []api.Trans{{Name: "trans", In: []api.Arc{{Place: 0, N: 1}}, Out: []api.Arc{{Place: 0, N: 1}}}},
	})
	wantFault(t, "place place; place ^place;", api.ErrName)
	wantFault(t, "place trans; trans ^trans: -> ;", api.ErrName)
	wantFault(t, "place ^;", api.ErrSyntax)
	wantFault(t, "place trans ^t: -> ;", api.ErrSyntax)
	wantFault(t, "trans place ^p;", api.ErrSyntax)
	wantFault(t, "trans t: ^place -> ;", api.ErrName)
	for _, s := range []string{"places p;", "placep;", "place1 p;", "place. p;", "plac p;", "transt: -> ;", "tran t: -> ;", "transs t: -> ;", "a;"} {
		wantFault(t, "^"+s, api.ErrSyntax)
		wantFault(t, "place x;\n^"+s, api.ErrSyntax)
	}
}

// TestNamesUsedBefore: among places, among transitions, and among both (P6.2).
func TestNamesUsedBefore(t *testing.T) {
	wantFault(t, "place p; place ^p;", api.ErrName)
	wantFault(t, "place p = 1; place q; place ^p = 1;", api.ErrName)
	wantFault(t, "place p; trans ^p: -> ;", api.ErrName)
	wantFault(t, "trans p: -> ; place ^p;", api.ErrName)
	wantFault(t, "trans p: -> ; trans ^p: -> ;", api.ErrName)
	wantFault(t, "trans p: -> ; place q; trans r: q -> q; trans ^p: -> ;", api.ErrName)
	wantFault(t, "trans p: p -> p; place ^p;", api.ErrName)
	wantFault(t, places(32)+transitions(31)+"trans ^p0: -> ;", api.ErrName)
	wantFault(t, transitions(32)+places(31)+"place ^t0;", api.ErrName)
	// Names that only begin alike differ.
	wantNet(t, "place a; place aa; place a.; trans a1: -> ;", api.Net{
		Places: []api.Place{{Name: "a"}, {Name: "aa"}, {Name: "a."}}, Trans: []api.Trans{{Name: "a1"}},
	})
}

// TestNamesThatMayNotBe: a Word may be too long for a name (P6.2).
func TestNamesThatMayNotBe(t *testing.T) {
	for _, name := range []string{"a", "abcdefghijkl", "a.0.1.2.3.4.", "a99999999999"} {
		wantNet(t, "place "+name+";", api.Net{Places: []api.Place{{Name: name}}})
		wantNet(t, "trans "+name+": -> ;", api.Net{Trans: []api.Trans{{Name: name}}})
		wantNet(t, "trans t: "+name+" -> ; place "+name+";", api.Net{
			Places: []api.Place{{Name: name}}, Trans: []api.Trans{{Name: "t", In: []api.Arc{{Place: 0, N: 1}}}},
		})
	}
	for _, name := range []string{"abcdefghijklm", "a.0.1.2.3.4.5", "a999999999999", strings.Repeat("a", 1<<20)} {
		wantFault(t, "place ^"+name+";", api.ErrName)
		wantFault(t, "place p; place ^"+name+" = 1;", api.ErrName)
		wantFault(t, "trans ^"+name+": -> ;", api.ErrName)
		wantFault(t, "trans t: ^"+name+" -> ;", api.ErrName)
		wantFault(t, "trans t: -> ^"+name+";", api.ErrName)
	}
}

// TestNamesInArcs: they are those of places, once in each list (P6.2).
func TestNamesInArcs(t *testing.T) {
	const two = "place p; place q;\n"
	for _, s := range []string{
		"trans t: ^x -> ;", "trans t: ~^x -> ;", "trans t: -> ^x;", "trans t: p, ^x -> ;", "trans t: ~p, ~^x -> ;", "trans t: -> p, ^x;",
		"trans t: ^x*2 -> ;", "trans t: -> ^x*2;", "trans t: ^t -> ;", "trans t: ~^t -> ;", "trans t: -> ^t;", "trans t: p*3, ^t*2 -> q;",
		"trans t: p, ^p -> ;", "trans t: p*2, ^p*2 -> ;", "trans t: p, q, ^p -> ;", "trans t: p, ~p, ^p -> ;", "trans t: p, ~q, q, ^q -> ;",
		"trans t: ~p, ~^p -> ;", "trans t: ~p, p, ~^p -> ;", "trans t: ~p*9, q, ~q, ~^q -> ;",
		"trans t: -> p, ^p;", "trans t: p -> p, q, ^p;", "trans t: ~q -> q*2, ^q;",
	} {
		wantFault(t, two+s, api.ErrName)
		wantFault(t, two+"trans u: p, q, ~p, ~q -> p, q;\n"+s, api.ErrName)
		wantFault(t, strings.Replace(s, "t:", "t @5 !6:", 1)+two, api.ErrName)
	}
	// In another list, or in that of another transition, the place may be there already.
	both := []api.Arc{{Place: 0, N: 1}, {Place: 1, N: 1}}
	wantNet(t, two+"trans t: p, ~p, ~q, q -> p, q; trans u: p, q, ~p, ~q -> p, q;", api.Net{
		Places: []api.Place{{Name: "p"}, {Name: "q"}},
		Trans:  []api.Trans{{Name: "t", In: both, Not: both, Out: both}, {Name: "u", In: both, Not: both, Out: both}},
	})
}

// TestNumbers: the bounds of each number (P6.1, P6.2).
func TestNumbers(t *testing.T) {
	const head = "place q; "
	for _, c := range []struct {
		before, after string
		least         int
		of            func(n api.Net) int
	}{
		{"place p = ", ";", 0, func(n api.Net) int { return n.Places[1].Tokens }},
		{"trans t @", ": -> ;", 0, func(n api.Net) int { return n.Trans[0].Delay }},
		{"trans t @", " !5: q -> q;", 0, func(n api.Net) int { return n.Trans[0].Delay }},
		{"trans t !", ": -> ;", 0, func(n api.Net) int { return n.Trans[0].Prio }},
		{"trans t @5 !", ": q -> q;", 0, func(n api.Net) int { return n.Trans[0].Prio }},
		{"trans t: q*", " -> ;", 1, func(n api.Net) int { return n.Trans[0].In[0].N }},
		{"trans t: ~q, q*", ", ~p -> ; place p;", 1, func(n api.Net) int { return n.Trans[0].In[0].N }},
		{"trans t: ~q*", " -> ;", 1, func(n api.Net) int { return n.Trans[0].Not[0].N }},
		{"trans t: q, ~q*", ", ~p -> ; place p;", 1, func(n api.Net) int { return n.Trans[0].Not[0].N }},
		{"trans t: -> q*", ";", 1, func(n api.Net) int { return n.Trans[0].Out[0].N }},
		{"trans t: q -> p, q*", "; place p;", 1, func(n api.Net) int { return n.Trans[0].Out[1].N }},
	} {
		for _, x := range []int{0, 1, 2, 999999, 1000000, 1000001, 1000002, 1 << 31, 1 << 32, 1<<32 + 1, 1 << 40, 1<<50 - 1, 1 << 50, 1<<50 + 1} {
			for _, noughts := range []string{"", "0", strings.Repeat("0", 1000)} {
				digits := noughts + fmt.Sprint(x)
				if x < c.least || x > api.MaxNum {
					wantFault(t, head+c.before+"^"+digits+c.after, api.ErrOver)
					continue
				}
				n, f := Net([]byte(head + c.before + digits + c.after))
				if f != (api.Fault{}) || net.Check(n) != api.OK || c.of(n) != x {
					t.Errorf("%s%d%s: %v %v", c.before, x, c.after, n, f)
				}
			}
		}
		wantFault(t, head+c.before+"^99999999999999999999999999"+c.after, api.ErrOver)
	}
}

// grammar is the chapter's, as an automaton: a state, the tokens with which a net can go on there, and the states behind
// them. An End may stand in state net alone.
const grammar = `
net      place>place trans>trans
place    Word>tokens
tokens   =>tokens# ;>net
tokens#  Num>placeend
placeend ;>net
trans    Word>delay
delay    @>delay# !>prio# :>looks
delay#   Num>prio
prio     !>prio# :>looks
prio#    Num>colon
colon    :>looks
looks    ~>not Word>look* ->>outs
look     ~>not Word>look*
not      Word>look*
look*    *>look# ,>look ->>outs
look#    Num>lookend
lookend  ,>look ->>outs
outs     Word>out* ;>net
out      Word>out*
out*     *>out# ,>out ;>net
out#     Num>outend
outend   ,>out ;>net
`

// steps are the grammar's: of each state, by token.
var steps = readGrammar()

func readGrammar() map[string]map[string]string {
	all := map[string]map[string]string{}
	for _, line := range strings.Split(strings.TrimSpace(grammar), "\n") {
		fields := strings.Fields(line)
		all[fields[0]] = map[string]string{}
		for _, field := range fields[1:] {
			at := strings.LastIndex(field, ">")
			all[fields[0]][field[:at]] = field[at+1:]
		}
	}
	return all
}

// step returns the state behind a token.
func step(state string, t lex.Token) (string, bool) {
	next, found := steps[state][t.Text]
	if !found && t.Kind == lex.Word {
		next, found = steps[state]["Word"]
	}
	if !found && t.Kind == lex.Num {
		next, found = steps[state]["Num"]
	}
	return next, found
}

// beginnings lead to each state of the grammar.
var beginnings = map[string][]string{
	"net":      {"", "place p;", "place p = 1;", "trans t: -> ;", "place p; trans t: p -> p;", "place p; trans t: -> p*2;"},
	"place":    {"place", "place p; place", "trans t: -> ; place"},
	"tokens":   {"place p", "place p; place q", "place place", "place trans"},
	"tokens#":  {"place p =", "place q; place p ="},
	"placeend": {"place p = 1", "place q; place p = 0"},
	"trans":    {"trans", "place p; trans", "trans u: -> ; trans"},
	"delay":    {"trans t", "place p; trans t", "trans place", "trans trans"},
	"delay#":   {"trans t @"},
	"prio":     {"trans t @2"},
	"prio#":    {"trans t !", "trans t @2 !"},
	"colon":    {"trans t !1", "trans t @2 !1"},
	"looks":    {"trans t:", "trans t @2:", "trans t !1:", "trans t @2 !1:"},
	"look":     {"place p; trans t: p,", "place p; trans t: ~p,", "place p; trans t: p*2,", "place p; trans t: p, ~p*2,"},
	"not":      {"trans t: ~", "place p; trans t: p, ~", "place p; trans t: p*2, ~"},
	"look*":    {"place p; trans t: p", "place p; trans t: ~p", "place p; trans t: p, ~p", "place p; trans t: ~p, p"},
	"look#":    {"place p; trans t: p*", "place p; trans t: ~p*", "place p; trans t: p, ~p*"},
	"lookend":  {"place p; trans t: p*2", "place p; trans t: ~p*2", "place p; trans t: p, ~p*2"},
	"outs":     {"trans t: ->", "place p; trans t: p ->", "place p; trans t: ~p*2 ->"},
	"out":      {"place p; trans t: -> p,", "place p; trans t: p -> p*2,"},
	"out*":     {"place p; trans t: -> p", "place p; place q; trans t: -> p, q"},
	"out#":     {"place p; trans t: -> p*", "place p; place q; trans t: -> p, q*"},
	"outend":   {"place p; trans t: -> p*2", "place p; place q; trans t: -> p, q*2"},
}

// TestEachTokenAtEachPlaceOfTheGrammar: where a net can go on with a token, and where that is a fault (P6.1, P6.2).
func TestEachTokenAtEachPlaceOfTheGrammar(t *testing.T) {
	if len(beginnings) != len(steps) {
		t.Fatal("not all states have beginnings")
	}
	pieces := []string{"place", "trans", "p", "x", "abcdefghijklm", "7", "0", "1000000", "1000001", ";", ":", ",", "*", "!", "~", "@", "=", "->", ""}
	for state, texts := range beginnings {
		for _, before := range texts {
			for _, piece := range pieces {
				s := before + " " + piece
				tokens, _ := lex.Tokens([]byte(piece))
				_, fits := step(state, tokens[0])
				switch {
				case piece == "" && state == "net":
					if _, f := Net([]byte(s)); f != (api.Fault{}) {
						t.Errorf("%q: %v", s, f)
					}
				case !fits:
					wantFault(t, before+" ^"+piece, api.ErrSyntax)
					wantFault(t, before+"\n\n ^"+piece, api.ErrSyntax)
					// What follows the token changes nothing.
					if piece != "" {
						wantFault(t, before+" ^"+piece+" ; place x; 1000001", api.ErrSyntax)
					}
				default:
					if _, f := Net([]byte(s)); f.Err == api.ErrSyntax && f.At != len(s) {
						t.Errorf("%q: %v", s, f)
					}
				}
				wantModel(t, s)
			}
		}
	}
}

// TestEndOfText: a fault there is told at the end, behind blanks and comments (P6.2).
func TestEndOfText(t *testing.T) {
	wantFault(t, "place^", api.ErrSyntax)
	wantFault(t, "place p^", api.ErrSyntax)
	wantFault(t, "place p  ^", api.ErrSyntax)
	wantFault(t, "place p\n^", api.ErrSyntax)
	wantFault(t, "place p # ;^", api.ErrSyntax)
	wantFault(t, "place p; trans t: -> # ;\n\n ^", api.ErrSyntax)
}

// TestFaultsOnLines: line and column are those of the token (P6.2).
func TestFaultsOnLines(t *testing.T) {
	s := "place p;\r\n\n# place q;\n\ttrans t: p ->\n  q;"
	if _, f := Net([]byte(s)); f != (api.Fault{Err: api.ErrName, At: strings.LastIndex(s, "q"), Line: 5, Col: 3}) {
		t.Error(f)
	}
	s = "place p;\n\n\nplace\n\n\tp;"
	if _, f := Net([]byte(s)); f != (api.Fault{Err: api.ErrName, At: 19, Line: 6, Col: 2}) {
		t.Error(f)
	}
}

// TestFirstFault: of faults at several tokens that of the first token is told, whatever it is (P6.2).
func TestFirstFault(t *testing.T) {
	pieces := []struct {
		text string
		e    api.Errno
	}{
		{"place ^abcdefghijklm;", api.ErrName}, {"place p; trans ^p: -> ;", api.ErrName}, {"trans u: ^y -> ;", api.ErrName},
		{"place r = ^1000001;", api.ErrOver}, {"place z; trans v: z*^0 -> ;", api.ErrOver},
		{"place ^5;", api.ErrSyntax}, {"^;", api.ErrSyntax}, {"trans w ^-> ;", api.ErrSyntax},
		{places(32) + "place ^a;", api.ErrLong}, {transitions(32) + "trans ^b: -> ;", api.ErrLong},
		{"trans c: -> " + names(8, "") + ", ^p8;" + places(9), api.ErrLong},
	}
	for _, a := range pieces {
		wantFault(t, a.text, a.e)
		for _, b := range pieces {
			wantFault(t, a.text+strings.Replace(b.text, "^", "", 1), a.e)
		}
	}
	wantFault(t, "place p = ^1000001 1000001;", api.ErrOver)
	wantFault(t, "place ^abcdefghijklm = 1000001;", api.ErrName)
	wantFault(t, "trans t: ^q*0 -> ;", api.ErrName)
	wantFault(t, "place q; trans t: q, ^q*0 -> ;", api.ErrName)
	wantFault(t, "trans t @^1000001: q -> ;", api.ErrOver)
	wantFault(t, places(9)+"trans t: "+names(8, "")+", ^p8*0 -> ;", api.ErrLong)
}

func TestManyPlacesAndTransitions(t *testing.T) { // P6.2
	var want api.Net
	for i := range 32 {
		want.Places = append(want.Places, api.Place{Name: fmt.Sprint("p", i)})
	}
	wantNet(t, places(32), want)
	for i := range 32 {
		want.Trans = append(want.Trans, api.Trans{Name: fmt.Sprint("t", i)})
	}
	wantNet(t, places(32)+transitions(32), want)
	wantNet(t, transitions(32)+places(32), want)
	wantFault(t, places(32)+"place ^p32;", api.ErrLong)
	wantFault(t, places(32)+transitions(32)+"place ^p32;", api.ErrLong)
	wantFault(t, transitions(32)+"trans ^t32: -> ;", api.ErrLong)
	wantFault(t, places(32)+transitions(32)+"trans ^t32: -> ;", api.ErrLong)
	wantFault(t, transitions(32)+places(32)+"\n\n\tplace\n ^p32 = 1000001", api.ErrLong)
	// The last of 32 places may be in an arc.
	want.Trans = []api.Trans{{Name: "t", Out: []api.Arc{{Place: 31, N: 1}}}}
	wantNet(t, "trans t: -> p31;"+places(32), want)
}

func TestManyArcs(t *testing.T) { // P6.2
	var eight []api.Arc
	var want api.Net
	for i := range 8 {
		eight = append(eight, api.Arc{Place: i, N: 1})
	}
	for i := range 9 {
		want.Places = append(want.Places, api.Place{Name: fmt.Sprint("p", i)})
	}
	full := names(8, "") + ", " + names(8, "~")
	want.Trans = []api.Trans{{Name: "t", In: eight, Not: eight, Out: eight}, {Name: "u", In: eight, Not: eight, Out: eight}}
	body := ": " + full + " -> " + names(8, "") + ";"
	wantNet(t, places(9)+"trans t"+body+"trans u"+body, want)
	for _, s := range []string{
		names(8, "") + ", ^p8 -> ;", names(8, "~") + ", ~^p8 -> ;", "-> " + names(8, "") + ", ^p8;",
		full + ", ^p8 -> ;", full + ", ~^p8 -> ;", full + "-> " + names(8, "") + ", ^p8;",
		names(8, "") + ", ~p8, ^p8 -> ;", names(8, "~") + ", p8, ~^p8 -> ;",
		names(8, "") + ", ^p8*2 -> ;", names(8, "") + ", ^p8", names(8, "") + ", ^p8 p8",
	} {
		wantFault(t, places(9)+"trans t: "+s, api.ErrLong)
		wantFault(t, "trans t: "+s+" ; "+places(9), api.ErrLong)
	}
}

// TestTwoFaultsAtOneToken: which of them is told (P6.2). ErrOver applies to Nums alone and ErrName to Words, so that those
// two never meet.
func TestTwoFaultsAtOneToken(t *testing.T) {
	// ErrLong for a place or transition, ahead of ErrSyntax, which takes the place of its name.
	for _, piece := range []string{"^;", "^5", "^1000001", "^->", "^: -> ;", "^~p", "^= 1;", "^", " # \n^"} {
		wantFault(t, places(32)+"place "+piece, api.ErrLong)
		wantFault(t, transitions(32)+"trans "+piece, api.ErrLong)
		wantFault(t, places(31)+"place "+piece, api.ErrSyntax)
		wantFault(t, transitions(31)+"trans "+piece, api.ErrSyntax)
	}
	// ErrLong for a place or transition, ahead of ErrName.
	for _, name := range []string{"^p0", "^t0", "^p30", "^t30", "^abcdefghijklm"} {
		wantFault(t, places(32)+transitions(32)+"place "+name+";", api.ErrLong)
		wantFault(t, places(32)+transitions(32)+"trans "+name+": -> ;", api.ErrLong)
		wantFault(t, places(31)+transitions(31)+"place "+name+";", api.ErrName)
		wantFault(t, places(31)+transitions(31)+"trans "+name+": -> ;", api.ErrName)
	}
	// ErrSyntax ahead of ErrOver: a number where none may be.
	for _, s := range []string{
		"^1000001;", "place ^1000001;", "place p ^1000001;", "place p = 1 ^1000001;", "trans ^1000001: -> ;", "trans t ^1000001: -> ;",
		"trans t @1 ^1000001: -> ;", "trans t: ^0 -> ;", "trans t: ^1000001 -> ;", "trans t: ~^0 -> ;", "place p; trans t: p ^0 -> ;",
		"place p; trans t: p, ^1000001 -> ;", "place p; trans t: p*2 ^0 -> ;", "trans t: -> ^1000001;", "place p; trans t: -> p ^1000001;",
	} {
		wantFault(t, s, api.ErrSyntax)
	}
	// ErrSyntax ahead of ErrName: a Word where none may be, though no name could be that.
	for _, s := range []string{
		"place p ^p;", "place p = ^p;", "place p = 1 ^abcdefghijklm;", "trans t ^t: -> ;", "trans t @^x: -> ;", "trans t: -> ; ^x;",
		"place p; trans t: p ^x -> ;", "place p; trans t: p*^x -> ;", "place p; trans t: -> p ^p;", "place p; trans t: -> p*2 ^x;",
	} {
		wantFault(t, s, api.ErrSyntax)
	}
	// ErrSyntax ahead of ErrLong for an arc, which takes the place of its name.
	for _, piece := range []string{"^;", "^->", "^,", "^5", "^0", "^1000001", "^", "^*2"} {
		wantFault(t, places(9)+"trans t: "+names(8, "")+", "+piece, api.ErrSyntax)
		wantFault(t, places(9)+"trans t: "+names(8, "~")+", ~"+piece, api.ErrSyntax)
		wantFault(t, places(9)+"trans t: -> "+names(8, "")+", "+piece, api.ErrSyntax)
	}
	wantFault(t, places(9)+"trans t: -> "+names(8, "")+", ^~p8;", api.ErrSyntax)
	wantFault(t, places(9)+"trans t: -> "+names(8, "")+" ^p8;", api.ErrSyntax)
	// ErrName ahead of ErrLong for an arc.
	for _, name := range []string{"^p0", "^p7", "^x", "^t", "^abcdefghijklm"} {
		wantFault(t, places(9)+"trans t: "+names(8, "")+", "+name+" -> ;", api.ErrName)
		wantFault(t, places(9)+"trans t: "+names(8, "~")+", ~"+name+" -> ;", api.ErrName)
		wantFault(t, places(9)+"trans t: -> "+names(8, "")+", "+name+";", api.ErrName)
	}
}

// TestFaultsOfTheLexer: if there is any, it is told, be it ahead of a fault of the parser or behind it (P6.2).
func TestFaultsOfTheLexer(t *testing.T) {
	for _, c := range []struct {
		text string
		e    api.Errno
	}{
		{"^?", api.ErrSyntax}, {"^A", api.ErrSyntax}, {"^-", api.ErrSyntax}, {"^.", api.ErrSyntax}, {"^\x00", api.ErrSyntax}, {"^\xff", api.ErrSyntax}, {"^ä", api.ErrSyntax},
		{"^1125899906842625", api.ErrOver}, {"^99999999999999999999999", api.ErrOver},
	} {
		wantFault(t, c.text, c.e)
		for _, s := range []string{
			"p;", "place ", "place p", "place 5;", "place p; place p;", "place p = 1000001;", "place p; trans t: p*0 -> ;", "trans t: q -> ;", "trans t: ",
			"place abcdefghijklm;", places(33), transitions(33), places(9) + "trans t: -> " + names(9, "") + ";", "place p;", "",
		} {
			wantFault(t, s+" "+c.text, c.e)
			wantFault(t, s+"\n"+c.text+" \nplace p;", c.e)
			wantFault(t, c.text+" "+s, c.e)
			wantFault(t, c.text+"\n"+s, c.e)
		}
	}
	// Where a number above 2^50 stands, a smaller one is a fault of the parser, or none.
	wantFault(t, "^p; place q = 1125899906842624;", api.ErrSyntax)
	wantFault(t, "place q = ^1125899906842624; p;", api.ErrOver)
	wantFault(t, "place p = 1000001; place q = ^1125899906842625;", api.ErrOver)
	// The first one of the lexer's.
	wantFault(t, "place p = ^1125899906842625; ?", api.ErrOver)
	wantFault(t, "place p = ^? 1125899906842625;", api.ErrSyntax)
}

// modelRun goes through the grammar, and takes in what it finds.
type modelRun struct {
	n     api.Net
	names []string       // of all places
	used  map[string]int // the names declared so far
	state string
	not   bool
}

// model is Net by the words of the chapter, for each token all faults that apply, and of these the first.
func model(p []byte) (api.Net, api.Fault) {
	tokens, f := lex.Tokens(p)
	if f != (api.Fault{}) {
		return api.Net{}, f
	}
	m := modelRun{state: "net", used: map[string]int{}}
	for i := 1; i < len(tokens); i++ {
		if tokens[i-1].Text == "place" && tokens[i].Kind == lex.Word && !slices.Contains(m.names, tokens[i].Text) {
			m.names = append(m.names, tokens[i].Text)
		}
	}
	for _, t := range tokens {
		if t.Kind == lex.End && m.state == "net" {
			return m.n, api.Fault{}
		}
		for _, e := range m.faults(t) {
			if e != api.OK {
				return api.Net{}, faultAt(string(p), e, t.At)
			}
		}
		m.take(t)
	}
	panic("no End")
}

// list is the one to which an arc at the state belongs.
func (m *modelRun) list() *[]api.Arc {
	t := &m.n.Trans[len(m.n.Trans)-1]
	switch {
	case strings.HasPrefix(m.state, "out"):
		return &t.Out
	case m.not:
		return &t.Not
	}
	return &t.In
}

func (m *modelRun) atArc() bool {
	return slices.Contains([]string{"looks", "look", "not", "outs", "out"}, m.state)
}

// faults are those that apply at a token, in the order of P6.2.
func (m *modelRun) faults(t lex.Token) [5]api.Errno {
	var l [5]api.Errno
	if m.state == "place" && len(m.n.Places) >= 32 || m.state == "trans" && len(m.n.Trans) >= 32 {
		l[0] = api.ErrLong
	}
	if _, fits := step(m.state, t); !fits {
		l[1] = api.ErrSyntax
	}
	if t.Kind == lex.Num && (t.N > 1000000 || t.N == 0 && (m.state == "look#" || m.state == "out#")) {
		l[2] = api.ErrOver
	}
	if t.Kind != lex.Word {
		return l
	}
	if (m.state == "place" || m.state == "trans") && (len(t.Text) > 12 || m.used[t.Text] > 0) {
		l[3] = api.ErrName
	}
	if m.atArc() {
		place := slices.Index(m.names, t.Text)
		if place < 0 || slices.ContainsFunc(*m.list(), func(a api.Arc) bool { return a.Place == place }) {
			l[3] = api.ErrName
		}
		if len(*m.list()) >= 8 {
			l[4] = api.ErrLong
		}
	}
	return l
}

// take goes on by a token without a fault.
func (m *modelRun) take(t lex.Token) {
	switch {
	case m.state == "place":
		m.n.Places = append(m.n.Places, api.Place{Name: t.Text})
		m.used[t.Text]++
	case m.state == "trans":
		m.n.Trans = append(m.n.Trans, api.Trans{Name: t.Text})
		m.used[t.Text]++
	case m.state == "tokens#":
		m.n.Places[len(m.n.Places)-1].Tokens = t.N
	case m.state == "delay#":
		m.n.Trans[len(m.n.Trans)-1].Delay = t.N
	case m.state == "prio#":
		m.n.Trans[len(m.n.Trans)-1].Prio = t.N
	case m.state == "look#" || m.state == "out#":
		l := *m.list()
		l[len(l)-1].N = t.N
	case m.atArc() && t.Kind == lex.Word:
		l := m.list()
		*l = append(*l, api.Arc{Place: slices.Index(m.names, t.Text), N: 1})
	}
	m.state, _ = step(m.state, t)
	if m.state == "look" || m.state == "looks" || m.state == "not" {
		m.not = m.state == "not"
	}
}

// wantModel: s is what the model says.
func wantModel(t *testing.T, s string) api.Errno {
	t.Helper()
	n, f := Net([]byte(s))
	wantN, wantF := model([]byte(s))
	if f != wantF || !net.Equal(n, wantN) {
		t.Fatalf("%s: %v %v, not %v %v", brief(s), n, f, wantN, wantF)
	}
	if f.Err == api.OK && net.Check(n) != api.OK {
		t.Fatalf("%s: a net with error %d", brief(s), net.Check(n))
	}
	return f.Err
}

// TestShortTextsAgainstModel holds Net against the model for all short rows of some pieces that go on where a net can,
// and one piece beyond that (P6.1, P6.2).
func TestShortTextsAgainstModel(t *testing.T) {
	pieces := []string{"place", "trans", "p", "q", "7", "0", "1000001", ";", ":", ",", "*", "!", "~", "@", "=", "->"}
	var try func(s string, more int)
	try = func(s string, more int) {
		wantModel(t, s)
		wantModel(t, s+"; place q;")
		_, f := Net([]byte(s + "; place q; place p;"))
		if more == 0 || f.Err != api.OK && f.At < len(s) {
			return
		}
		for _, piece := range pieces {
			try(s+piece+" ", more-1)
		}
	}
	try("", 8)
	try("place p; trans t: ", 6)
	try("place p; trans t: p -> ", 5)
}

// TestLongTextsAgainstModel holds Net against the model for nets that were made by chance, and for those with some tokens
// changed (P6.1, P6.2, P1).
func TestLongTextsAgainstModel(t *testing.T) {
	r := rand.New(rand.NewSource(6))
	pieces := []string{
		"place", "trans", "p0", "p1", "p2", "p3", "t0", "x", "abcdefghijklm", "0", "1", "2", "1000000", "1000001",
		";", ":", ",", "*", "!", "~", "@", "=", "->",
	}
	gaps := []string{" ", "\n", "\t", " # x\n", "\r\n"}
	found := map[api.Errno]int{}
	for range 20000 {
		tokens := strings.Fields(chanceNet(r))
		for range r.Intn(3) {
			at, piece := r.Intn(len(tokens)), pieces[r.Intn(len(pieces))]
			switch r.Intn(4) {
			case 0:
				tokens[at] = piece
			case 1:
				tokens = slices.Insert(tokens, at, piece)
			case 2:
				tokens = slices.Delete(tokens, at, min(at+1+r.Intn(3), len(tokens)))
			default:
				other := r.Intn(len(tokens))
				tokens[at], tokens[other] = tokens[other], tokens[at]
			}
			tokens = append(tokens, ";")[:max(len(tokens), 1)]
		}
		found[wantModel(t, strings.Join(tokens, gaps[r.Intn(len(gaps))]))]++
	}
	for _, e := range []api.Errno{api.OK, api.ErrSyntax, api.ErrOver, api.ErrName, api.ErrLong} {
		if found[e] < 100 {
			t.Errorf("error %d came up %d times alone", e, found[e])
		}
	}
}

// chanceNet is the text of a net, with a blank between any two tokens; now and then with an arc or a place too many, or a
// number too great.
func chanceNet(r *rand.Rand) string {
	count := 1 + r.Intn(12)
	if r.Intn(5) == 0 {
		count = 30 + r.Intn(4)
	}
	var items []string
	for i := range count {
		items = append(items, fmt.Sprintf("place p%d%s ;", i, chancePart(r, " = ")))
	}
	list := func(mark string) []string {
		var l []string
		order := r.Perm(count)
		for _, place := range order[:r.Intn(min(len(order), 9)+1)] {
			l = append(l, fmt.Sprint(mark, "p", place, chancePart(r, " * ")))
		}
		return l
	}
	for i := range r.Intn(4) {
		looks := append(list(""), list("~ ")...)
		r.Shuffle(len(looks), func(i, j int) { looks[i], looks[j] = looks[j], looks[i] })
		items = append(items, fmt.Sprintf("trans t%d%s%s : %s -> %s ;", i, chancePart(r, " @ "), chancePart(r, " ! "), strings.Join(looks, " , "), strings.Join(list(""), " , ")))
	}
	r.Shuffle(len(items), func(i, j int) { items[i], items[j] = items[j], items[i] })
	return strings.Join(items, "\n")
}

func chancePart(r *rand.Rand, sign string) string {
	if r.Intn(2) == 0 {
		return ""
	}
	if r.Intn(1000) == 0 {
		return fmt.Sprint(sign, 1000001)
	}
	return fmt.Sprint(sign, 1+r.Intn(1000000))
}

// TestAnswersShareNothing: the text stays as it is, answers do not change with it, and no two lists share memory (P2 and
// the rule of memory).
func TestAnswersShareNothing(t *testing.T) {
	const s = "place p = 3; place q; trans t @2: p, ~q -> q*2, p; trans u: q, p, ~p, ~q -> p;"
	p := []byte(s)
	n, f := Net(p)
	again, f2 := Net(p)
	if string(p) != s {
		t.Error("the text was changed")
	}
	if f != (api.Fault{}) || f2 != f || !net.Equal(n, again) {
		t.Error("another answer at a second call")
	}
	for i := range p {
		p[i] = 'x'
	}
	if !net.Equal(n, again) || n.Places[0].Name != "p" || n.Trans[1].Name != "u" {
		t.Error("the answer changed with the text")
	}
	for i := range n.Trans {
		for _, list := range []*[]api.Arc{&n.Trans[i].In, &n.Trans[i].Not, &n.Trans[i].Out} {
			before := slices.Clone(*list)
			*list = append(*list, api.Arc{Place: 77, N: 77})[:len(before)]
			for j := range *list {
				(*list)[j].N = 99
			}
			checkOthers(t, n, again, list)
			copy(*list, before)
		}
	}
	if !net.Equal(n, again) {
		t.Error("answers share memory")
	}
}

// checkOthers: the lists of n but one are those of want.
func checkOthers(t *testing.T, n, want api.Net, but *[]api.Arc) {
	t.Helper()
	for i := range n.Trans {
		mine := []*[]api.Arc{&n.Trans[i].In, &n.Trans[i].Not, &n.Trans[i].Out}
		theirs := [][]api.Arc{want.Trans[i].In, want.Trans[i].Not, want.Trans[i].Out}
		for which, list := range mine {
			if list != but && !slices.Equal(*list, theirs[which]) {
				t.Error("lists share memory")
			}
		}
	}
}

// TestSlicesOfTexts: bytes behind the end of a slice belong to nobody (P2).
func TestSlicesOfTexts(t *testing.T) {
	p := []byte("place p; place q; ?")
	n, f := Net(p[:8])
	if f != (api.Fault{}) || len(n.Places) != 1 || n.Places[0].Name != "p" {
		t.Error(n, f)
	}
	if n, f := Net(p[9:17]); f != (api.Fault{}) || len(n.Places) != 1 || n.Places[0].Name != "q" {
		t.Error(n, f)
	}
	if _, f := Net(p[:7]); f != (api.Fault{Err: api.ErrSyntax, At: 7, Line: 1, Col: 8}) {
		t.Error(f)
	}
	if string(p) != "place p; place q; ?" {
		t.Error("bytes beside the text were changed")
	}
}

// TestLongTexts: they end, with as many places as the text may name (P1, P6.2).
func TestLongTexts(t *testing.T) {
	const many = 200000
	wantFault(t, places(32)+"place ^p32;"+strings.TrimPrefix(places(many), places(33)), api.ErrLong)
	wantFault(t, places(32)+"place ^p32;\nplace p33;"+strings.Repeat("place p;", many), api.ErrLong)
	wantFault(t, transitions(32)+"trans ^t32: -> ;"+strings.Repeat("trans t: -> ;", many), api.ErrLong)
	wantFault(t, "^;"+strings.Repeat(";", many), api.ErrSyntax)
	wantFault(t, "place ^"+strings.Repeat("p", many)+";", api.ErrName)
	wantFault(t, "place p; trans t: p, ^p"+strings.Repeat(", p", many)+" -> ;", api.ErrName)
	wantFault(t, "trans t: p199999 -> ; "+places(32)+"place ^p32;"+strings.TrimPrefix(places(many), places(33)), api.ErrLong)
	wantFault(t, "trans t: ^p200000 -> ; "+places(many), api.ErrName)
}

// TestAnyBytes: whatever the bytes are, there is a net that is valid, or a fault with its place (P1, P6.2).
func TestAnyBytes(t *testing.T) {
	r := rand.New(rand.NewSource(7))
	const some = "placetrans;:,*!~@=->#\n 019.A\x00\xff"
	for range 20000 {
		p := make([]byte, r.Intn(40))
		for i := range p {
			p[i] = some[r.Intn(len(some))]
		}
		wantModel(t, string(p))
	}
}
