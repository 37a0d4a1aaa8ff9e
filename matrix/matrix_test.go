package matrix

import (
	"fmt"
	"math"
	"math/big"
	"math/rand"
	"slices"
	"strings"
	"testing"

	"marblerun/api"
	"marblerun/mark"
	"marblerun/net"
	"marblerun/parse"
	"marblerun/plain"
	"marblerun/print"
	"marblerun/whole"
)

const (
	top    = math.MaxInt
	bottom = math.MinInt
)

// netOf is the net of a text.
func netOf(t *testing.T, text string) api.Net {
	t.Helper()
	n, f := parse.Net([]byte(text))
	if f != (api.Fault{}) {
		t.Fatalf("%q: %v", text, f)
	}
	return n
}

// same reports whether two matrices are equal, number by number.
func same(a, b Matrix) bool {
	return slices.EqualFunc(a, b, func(x, y []int) bool { return slices.Equal(x, y) })
}

// clone is a matrix that shares nothing with m.
func clone(m Matrix) Matrix {
	c := slices.Clone(m)
	for i, row := range c {
		c[i] = slices.Clone(row)
	}
	return c
}

// spoil writes into all that a matrix holds, and behind it.
func spoil(m Matrix) {
	for i := range m {
		for j := range m[i] {
			m[i][j] = 77
		}
		_ = append(m[i], 78)
		m[i] = []int{79}
	}
	_ = append(m, []int{80})
}

// wantOf: the matrix of a net, also once more, when the first one has been written over, and read back from the net's
// text; the net stays as it was (P11.1, P2, P5 and the rule of memory).
func wantOf(t *testing.T, n api.Net, want Matrix) {
	t.Helper()
	before := net.Copy(n)
	for range 2 {
		m := Of(n)
		if !same(m, want) {
			t.Errorf("Of(%v): %v, not %v", n, m, want)
		}
		spoil(m)
	}
	if !net.Equal(n, before) {
		t.Errorf("Of changed %v to %v", before, n)
	}
	lines, e := print.Text(n)
	back, f := parse.Net([]byte(lines))
	if e != api.OK || f != (api.Fault{}) || !same(Of(back), want) {
		t.Errorf("read back from %q, %d, %v: %v, not %v", lines, e, f, Of(back), want)
	}
}

// wantTurn: the transposed matrix, also once more, when the first one has been written over; m stays as it was (P11.1, P2
// and the rule of memory).
func wantTurn(t *testing.T, m, want Matrix) {
	t.Helper()
	before := clone(m)
	for range 2 {
		turned := Turn(m)
		if !same(turned, want) {
			t.Errorf("Turn(%v): %v, not %v", m, turned, want)
		}
		spoil(turned)
	}
	if !same(m, before) {
		t.Errorf("Turn changed %v to %v", before, m)
	}
}

// answers checks what call returns, also once more, when the first answer has been written over, and that what it is
// given stays as it was (P11.1, P2 and the rule of memory). With false the list is empty.
func answers(t *testing.T, what string, call func([]int, Matrix) ([]int, bool), v []int, m Matrix, want []int, wantOk bool) {
	t.Helper()
	vector, rows := slices.Clone(v), clone(m)
	for range 2 {
		got, ok := call(v, m)
		if ok != wantOk || !slices.Equal(got, want) {
			t.Errorf("%s of %v and %v: %v %v, not %v %v", what, vector, rows, got, ok, want, wantOk)
		}
		for i := range got {
			got[i] = 77
		}
		_ = append(got, 78)
	}
	if !slices.Equal(v, vector) || !same(m, rows) {
		t.Errorf("%s changed %v and %v to %v and %v", what, vector, rows, v, m)
	}
}

func rightOf(v []int, m Matrix) ([]int, bool) { return Right(m, v) }

func wantLeft(t *testing.T, y []int, m Matrix, want ...int) {
	t.Helper()
	answers(t, "Left", Left, y, m, want, true)
}

func noLeft(t *testing.T, y []int, m Matrix) {
	t.Helper()
	answers(t, "Left", Left, y, m, nil, false)
}

func wantRight(t *testing.T, m Matrix, x []int, want ...int) {
	t.Helper()
	answers(t, "Right", rightOf, x, m, want, true)
}

func noRight(t *testing.T, m Matrix, x []int) {
	t.Helper()
	answers(t, "Right", rightOf, x, m, nil, false)
}

func TestExample(t *testing.T) { // P11.1
	wantOf(t, netOf(t, "place p; place q; trans t: p -> q*2;"), Matrix{{-1}, {2}})
}

func TestOf(t *testing.T) { // P11.1
	for _, c := range []struct {
		text string
		want Matrix
	}{
		{"place p; trans t: ->;", Matrix{{0}}},
		{"place p; trans t: p ->;", Matrix{{-1}}},
		{"place p; trans t: -> p;", Matrix{{1}}},
		{"place p; trans t: p*1000000 ->;", Matrix{{-api.MaxNum}}},
		{"place p; trans t: -> p*1000000;", Matrix{{api.MaxNum}}},
		{"place p; place q; trans t: p -> q; trans u: q -> p;", Matrix{{-1, 1}, {1, -1}}},
		{"place p; place q; place r; trans t: p*2, r*3 -> q*5;", Matrix{{-2}, {5}, {-3}}},
		{"place p; trans t: p*2 ->; trans u: -> p*3; trans v: ->;", Matrix{{-2, 3, 0}}},
		{"place p; place q; trans t: q*7 ->; trans u: -> p, q;", Matrix{{0, 1}, {-7, 1}}},
		{"trans t: b -> a; place a; trans u: a*4 -> b*6; place b;", Matrix{{1, -4}, {-1, 6}}},
	} {
		wantOf(t, netOf(t, c.text), c.want)
	}
}

// TestOfNothing: nets without places have no rows, nets without transitions rows without numbers (P11.1).
func TestOfNothing(t *testing.T) {
	wantOf(t, api.Net{}, nil)
	wantOf(t, api.Net{Places: []api.Place{}, Trans: []api.Trans{}}, Matrix{})
	wantOf(t, netOf(t, "trans t: ->;"), nil)
	wantOf(t, netOf(t, "trans t: ->; trans u @3 !2: ->;"), nil)
	wantOf(t, netOf(t, "place p;"), Matrix{{}})
	wantOf(t, netOf(t, "place p = 4; place q; place r = 1;"), Matrix{{}, {}, {}})
}

// TestOfBoth: of a place that a transition takes from and gives to, the difference counts (P11.1).
func TestOfBoth(t *testing.T) {
	for _, c := range []struct {
		text string
		want int
	}{
		{"p -> p", 0}, {"p*2 -> p", -1}, {"p -> p*2", 1}, {"p*5 -> p*3", -2}, {"p*3 -> p*10", 7},
		{"p*1000000 -> p*1000000", 0}, {"p*1000000 -> p", 1 - api.MaxNum}, {"p -> p*1000000", api.MaxNum - 1},
		{"p*2, ~p*5 -> p*4", 2},
	} {
		wantOf(t, netOf(t, "place p; trans t: "+c.text+";"), Matrix{{c.want}})
		wantOf(t, netOf(t, "place o; place p; trans s: -> o; trans t: "+c.text+";"), Matrix{{1, 0}, {0, c.want}})
	}
	wantOf(t, netOf(t, "place p; place q; trans t: p*2, q*3 -> q*2, p*3;"), Matrix{{1}, {-1}})
}

// TestOfAsked: a place that a transition only asks of has a nought, and tokens, delays and priorities have no part in it
// (P11.1).
func TestOfAsked(t *testing.T) {
	wantOf(t, netOf(t, "place p; trans t: ~p ->;"), Matrix{{0}})
	wantOf(t, netOf(t, "place p; trans t: ~p*9 ->; trans u: p, ~p*9 ->;"), Matrix{{0, -1}})
	wantOf(t, netOf(t, "place p; place q; trans t: p, ~q*9 -> p*2;"), Matrix{{1}, {0}})
	wantOf(t, netOf(t, "place p = 9; place q = 8; trans t @7 !6: p*2 -> q;"), Matrix{{-2}, {1}})
}

// TestOfLargest: a net with as much as may be (P11.1).
func TestOfLargest(t *testing.T) {
	var n api.Net
	want := Matrix{}
	for i := range api.MaxPlaces {
		n.Places = append(n.Places, api.Place{Name: fmt.Sprint("p", i)})
		want = append(want, make([]int, api.MaxTrans))
	}
	for i := range api.MaxTrans {
		tr := api.Trans{Name: fmt.Sprint("t", i)}
		for j := range api.MaxArcs {
			in, out := (i+3*j)%api.MaxPlaces, (i+5*j+1)%api.MaxPlaces
			tr.In = append(tr.In, api.Arc{Place: in, N: api.MaxNum - j})
			tr.Out = append(tr.Out, api.Arc{Place: out, N: i + 1})
			want[in][i] -= api.MaxNum - j
			want[out][i] += i + 1
		}
		n.Trans = append(n.Trans, tr)
	}
	if e := net.Check(n); e != api.OK {
		t.Fatal(e)
	}
	wantOf(t, n, want)
}

// TestOfRefused: nets that are not valid have a matrix of their size, and nothing panics (P1).
func TestOfRefused(t *testing.T) {
	arcs := []api.Arc{{Place: -1, N: 1}, {Place: 2, N: 5}, {Place: bottom, N: top}, {Place: top, N: bottom}, {Place: 1, N: bottom}, {Place: 1, N: -3}}
	n := api.Net{Places: make([]api.Place, 2), Trans: []api.Trans{{In: arcs, Not: arcs, Out: arcs[:2]}, {Out: arcs}, {In: arcs}}}
	if m := Of(n); len(m) != 2 || len(m[0]) != 3 || len(m[1]) != 3 {
		t.Error(m)
	}
	n.Places = nil
	if m := Of(n); len(m) != 0 {
		t.Error(m)
	}
	n = api.Net{Places: make([]api.Place, 100), Trans: make([]api.Trans, 200)}
	if m := Of(n); len(m) != 100 || len(m[99]) != 200 {
		t.Error(len(m))
	}
}

func TestTurn(t *testing.T) { // P11.1
	for _, c := range []struct{ m, want Matrix }{
		{Matrix{{5}}, Matrix{{5}}},
		{Matrix{{1, 2, 3}}, Matrix{{1}, {2}, {3}}},
		{Matrix{{1}, {2}, {3}}, Matrix{{1, 2, 3}}},
		{Matrix{{1, 2}, {3, 4}}, Matrix{{1, 3}, {2, 4}}},
		{Matrix{{1, 2, 3}, {4, 5, 6}}, Matrix{{1, 4}, {2, 5}, {3, 6}}},
		{Matrix{{1, 4}, {2, 5}, {3, 6}}, Matrix{{1, 2, 3}, {4, 5, 6}}},
		{Matrix{{0, top}, {bottom, -1}}, Matrix{{0, bottom}, {top, -1}}},
	} {
		wantTurn(t, c.m, c.want)
		wantTurn(t, Turn(c.m), c.m)
	}
}

// TestTurnNothing: where there are no columns, Turn has no rows (P11.1).
func TestTurnNothing(t *testing.T) {
	for _, m := range []Matrix{nil, {}, {nil}, {{}}, {{}, {}, {}}, {nil, {}, nil}} {
		wantTurn(t, m, nil)
		wantTurn(t, Turn(m), nil)
	}
}

// TestTurnOfOneList: rows that are one and the same list turn into rows that share nothing (the rule of memory).
func TestTurnOfOneList(t *testing.T) {
	row := []int{1, 2}
	m := Turn(Matrix{row, row})
	if !same(m, Matrix{{1, 1}, {2, 2}}) {
		t.Error(m)
	}
	m[0][0] = 9
	m[1] = append(m[1], 8)
	if !same(m, Matrix{{9, 1}, {2, 2, 8}}) || !slices.Equal(row, []int{1, 2}) {
		t.Error(m, row)
	}
}

// TestOfSharesNothing: rows of one matrix, and of two, are lists of their own (the rule of memory).
func TestOfSharesNothing(t *testing.T) {
	n := netOf(t, "place p; place q; trans t: p -> q*2;")
	a, b := Of(n), Of(n)
	a[0] = append(a[0], 5)
	a[0][0] = 6
	if !same(a, Matrix{{6, 5}, {2}}) || !same(b, Matrix{{-1}, {2}}) {
		t.Error(a, b)
	}
	n.Trans[0].Out[0].N = 3
	if b[1][0] != 2 || Of(n)[1][0] != 3 {
		t.Error(b, Of(n))
	}
}

func TestLeft(t *testing.T) { // P11.1
	wantLeft(t, []int{3}, Matrix{{5}}, 15)
	wantLeft(t, []int{3}, Matrix{{5, -7, 0}}, 15, -21, 0)
	wantLeft(t, []int{1, 2, 3}, Matrix{{4}, {5}, {6}}, 32)
	wantLeft(t, []int{1, 10}, Matrix{{1, 2, 3}, {4, 5, 6}}, 41, 52, 63)
	wantLeft(t, []int{3, 1}, Matrix{{-1, 0}, {3, -1}}, 0, -1)
	wantLeft(t, []int{0, 0}, Matrix{{7, top}, {bottom, 2}}, 0, 0)
	wantLeft(t, []int{1, 0}, Matrix{{7, top}, {bottom, 2}}, 7, top)
}

func TestRight(t *testing.T) { // P11.1
	wantRight(t, Matrix{{5}}, []int{3}, 15)
	wantRight(t, Matrix{{5}, {-7}, {0}}, []int{3}, 15, -21, 0)
	wantRight(t, Matrix{{4, 5, 6}}, []int{1, 2, 3}, 32)
	wantRight(t, Matrix{{1, 2, 3}, {4, 5, 6}}, []int{1, 10, 100}, 321, 654)
	wantRight(t, Matrix{{-1, 0}, {3, -1}}, []int{1, 3}, -1, 0)
	wantRight(t, Matrix{{7, top}, {bottom, 2}}, []int{0, 0}, 0, 0)
	wantRight(t, Matrix{{7, top}, {bottom, 2}}, []int{1, 0}, 7, bottom)
}

// TestLengths: vectors with one element too few, just enough, and one too many (P11.1).
func TestLengths(t *testing.T) {
	m := Matrix{{1, 2, 3}, {4, 5, 6}}
	noLeft(t, nil, m)
	noLeft(t, []int{1}, m)
	wantLeft(t, []int{1, 1}, m, 5, 7, 9)
	noLeft(t, []int{1, 1, 1}, m)
	noLeft(t, []int{1, 1, 0}, m)
	noLeft(t, []int{0, 0, 0}, m)
	noLeft(t, []int{0}, m)
	noRight(t, m, nil)
	noRight(t, m, []int{1, 1})
	wantRight(t, m, []int{1, 1, 1}, 6, 15)
	noRight(t, m, []int{1, 1, 1, 1})
	noRight(t, m, []int{1, 1, 1, 0})
	noRight(t, m, []int{0, 0, 0, 0})
	noRight(t, m, []int{0, 0})
	one := Matrix{{1}}
	noLeft(t, nil, one)
	noLeft(t, []int{1, 2}, one)
	noRight(t, one, nil)
	noRight(t, one, []int{1, 2})
}

// TestRowsWithoutNumbers: a vector still has as many elements as there are rows, or as a row has (P11.1).
func TestRowsWithoutNumbers(t *testing.T) {
	m := Matrix{{}, nil, {}}
	wantLeft(t, []int{1, 2, 3}, m)
	wantLeft(t, []int{top, top, top}, m)
	noLeft(t, []int{1, 2}, m)
	noLeft(t, []int{1, 2, 3, 4}, m)
	noLeft(t, nil, m)
	wantRight(t, m, nil, 0, 0, 0)
	wantRight(t, m, []int{}, 0, 0, 0)
	noRight(t, m, []int{0})
}

// TestEmptyMatrix: without rows there is an empty list; no row has a length that x does not have (P11.1).
func TestEmptyMatrix(t *testing.T) {
	for _, m := range []Matrix{nil, {}} {
		wantLeft(t, nil, m)
		wantLeft(t, []int{}, m)
		noLeft(t, []int{0}, m)
		wantRight(t, m, nil)
		wantRight(t, m, []int{})
		wantRight(t, m, []int{5})
		wantRight(t, m, []int{top, bottom})
	}
}

// dots: the Dot of two lists is an int, or is none; as a row, as a column, and amidst others (P11.1).
func dots(t *testing.T, a, b []int, want int, ok bool) {
	t.Helper()
	zeros := make([]int, len(a))
	if !ok {
		noRight(t, Matrix{a}, b)
		noRight(t, Matrix{zeros, a}, b)
		noRight(t, Matrix{a, zeros}, b)
		noLeft(t, b, Turn(Matrix{a}))
		noLeft(t, b, Turn(Matrix{zeros, a}))
		noLeft(t, b, Turn(Matrix{a, zeros}))
		return
	}
	wantRight(t, Matrix{a}, b, want)
	wantRight(t, Matrix{zeros, a, zeros}, b, 0, want, 0)
	wantLeft(t, b, Turn(Matrix{a}), want)
	wantLeft(t, b, Turn(Matrix{zeros, a, zeros}), 0, want, 0)
}

// TestBounds: products and sums that are just ints, and none any more, at both edges (P11.1).
func TestBounds(t *testing.T) {
	for _, c := range []struct {
		a, b []int
		want int
		ok   bool
	}{
		{[]int{top}, []int{1}, top, true},
		{[]int{bottom}, []int{1}, bottom, true},
		{[]int{top}, []int{-1}, -top, true},
		{[]int{bottom}, []int{-1}, 0, false},
		{[]int{-1}, []int{bottom}, 0, false},
		{[]int{1 << 32}, []int{1 << 30}, 1 << 62, true},
		{[]int{1 << 32}, []int{1 << 31}, 0, false},
		{[]int{1 << 32}, []int{-1 << 31}, bottom, true},
		{[]int{1 << 32}, []int{-1<<31 - 1}, 0, false},
		{[]int{bottom}, []int{2}, 0, false},
		{[]int{top}, []int{2}, 0, false},
		{[]int{top, 1}, []int{1, 0}, top, true},
		{[]int{top - 1, 1}, []int{1, 1}, top, true},
		{[]int{top, 1}, []int{1, 1}, 0, false},
		{[]int{bottom + 1, 1}, []int{1, -1}, bottom, true},
		{[]int{bottom, 1}, []int{1, -1}, 0, false},
		{[]int{top, bottom}, []int{1, 1}, -1, true},
		// The sum is an int, but one on the way is none, in this order.
		{[]int{top, 1, -1}, []int{1, 1, 1}, 0, false},
		{[]int{top, -1, 1}, []int{1, 1, 1}, top, true},
		{[]int{bottom, -1, 1}, []int{1, 1, 1}, 0, false},
		{[]int{bottom, 1, -1}, []int{1, 1, 1}, bottom, true},
		{[]int{1, top, -1}, []int{1, 1, 1}, 0, false},
		{[]int{-1, top, 1}, []int{1, 1, 1}, top, true},
		{[]int{1 << 62, 1 << 62}, []int{1, 1}, 0, false},
		{[]int{1 << 62, 1<<62 - 1}, []int{1, 1}, top, true},
		{[]int{-1 << 62, -1 << 62}, []int{1, 1}, bottom, true},
		{[]int{-1 << 62, -1 << 62, -1}, []int{1, 1, 1}, 0, false},
		{[]int{top, bottom}, []int{0, 0}, 0, true},
	} {
		dots(t, c.a, c.b, c.want, c.ok)
		dots(t, c.b, c.a, c.want, c.ok)
	}
}

// TestOneOfMany: one row, or one column, is no int: there is no list at all (P11.1).
func TestOneOfMany(t *testing.T) {
	for i := range 4 {
		m := Matrix{{1, 1}, {2, 0}, {0, 3}, {-1, 1}}
		m[i] = []int{top, 1}
		noRight(t, m, []int{1, 1})
		noLeft(t, []int{1, 1}, Turn(m))
		m[i] = []int{top - 1, 1}
		if l, ok := Right(m, []int{1, 1}); !ok || l[i] != top {
			t.Error(m, l, ok)
		}
		if l, ok := Left([]int{1, 1}, Turn(m)); !ok || l[i] != top {
			t.Error(m, l, ok)
		}
	}
}

func TestZero(t *testing.T) { // P11.1
	for _, l := range [][]int{nil, {}, {0}, {0, 0}, make([]int, 1000)} {
		if !Zero(l) {
			t.Error(l)
		}
	}
	for _, x := range []int{1, -1, 2, top, bottom, 1 << 32, -1 << 32, 256} {
		for i := range 5 {
			l := make([]int, 5)
			l[i] = x
			before := slices.Clone(l)
			if Zero(l) || Zero(l[i:i+1]) || !Zero(l[:i]) || !Zero(l[i+1:]) || !slices.Equal(l, before) {
				t.Error(l, before)
			}
		}
	}
	for _, l := range [][]int{{1, -1}, {-1, 1}, {0, 3, -3}, {bottom, bottom}, {1, 1}} {
		if Zero(l) {
			t.Error(l)
		}
	}
}

// TestRagged: rows of different lengths are asked for nothing, but nothing panics (P1).
func TestRagged(t *testing.T) {
	for _, m := range []Matrix{{{1, 2}, {3}}, {{3}, {1, 2}}, {{}, {1}}, {{1}, {}}, {nil, {1, 2, 3}, {4}}} {
		Turn(m)
		for length := range 5 {
			v := slices.Repeat([]int{1}, length)
			Left(v, m)
			Right(m, v)
		}
	}
}

// chance is a list of numbers, small ones, or also some at the edges.
func chance(r *rand.Rand, length int, wide bool) []int {
	edges := []int{top, top - 1, bottom, bottom + 1, 1 << 62, -1 << 62, 1 << 32, 1 << 31, -1 << 31, -1 << 32}
	l := make([]int, length)
	for i := range l {
		l[i] = r.Intn(9) - 4
		if wide && r.Intn(3) == 0 {
			l[i] = edges[r.Intn(len(edges))]
		}
	}
	return l
}

func chanceMatrix(r *rand.Rand, rows, columns int, wide bool) Matrix {
	m := Matrix{}
	for range rows {
		m = append(m, chance(r, columns, wide))
	}
	return m
}

// sum is what the document asks of a Dot, with numbers of any size: at takes the index of a product.
func sum(length int, at func(int) (int, int)) (int, bool) {
	total := big.NewInt(0)
	for i := range length {
		a, b := at(i)
		product := new(big.Int).Mul(big.NewInt(int64(a)), big.NewInt(int64(b)))
		total.Add(total, product)
		if !product.IsInt64() || !total.IsInt64() {
			return 0, false
		}
	}
	return int(total.Int64()), true
}

// sums are all of so many; none, if one of them is no int.
func sums(count int, of func(int) (int, bool)) ([]int, bool) {
	var l []int
	for i := range count {
		x, ok := of(i)
		if !ok {
			return nil, false
		}
		l = append(l, x)
	}
	return l, true
}

// TestChanceVectors: Left and Right against numbers of any size (P11.1).
func TestChanceVectors(t *testing.T) {
	r := rand.New(rand.NewSource(11))
	refused := 0
	for i := range 20000 {
		rows, columns := 1+r.Intn(4), 1+r.Intn(4)
		m := chanceMatrix(r, rows, columns, i%2 == 0)
		y, x := chance(r, rows, i%4 == 0), chance(r, columns, i%4 == 0)
		left, leftOk := sums(columns, func(j int) (int, bool) {
			return sum(rows, func(i int) (int, int) { return y[i], m[i][j] })
		})
		right, rightOk := sums(rows, func(i int) (int, bool) {
			return sum(columns, func(j int) (int, int) { return m[i][j], x[j] })
		})
		answers(t, "Left", Left, y, m, left, leftOk)
		answers(t, "Right", rightOf, x, m, right, rightOk)
		if !leftOk || !rightOk {
			refused++
		}
	}
	if refused < 1000 || refused > 10000 {
		t.Error(refused)
	}
}

// TestChanceTurns: each number is found again in the transposed matrix, which turned once more is the matrix; Left is
// Right of it (P11.1).
func TestChanceTurns(t *testing.T) {
	r := rand.New(rand.NewSource(12))
	for range 3000 {
		rows, columns := 1+r.Intn(6), 1+r.Intn(6)
		m := chanceMatrix(r, rows, columns, r.Intn(2) == 0)
		turned := Turn(m)
		if len(turned) != columns {
			t.Fatal(m, turned)
		}
		for j, column := range turned {
			for i := range rows {
				if len(column) != rows || column[i] != m[i][j] {
					t.Fatal(m, turned)
				}
			}
		}
		if !same(Turn(turned), m) {
			t.Fatal(m, Turn(turned))
		}
		y := chance(r, rows, false)
		l, ok := Left(y, m)
		k, same := Right(turned, y)
		if ok != same || !slices.Equal(l, k) {
			t.Fatal(y, m, l, ok, k, same)
		}
		if Zero(y) != (slices.Max(y) == 0 && slices.Min(y) == 0) {
			t.Fatal(y)
		}
	}
}

// chanceArcs are arcs to different places.
func chanceArcs(r *rand.Rand, places int) []api.Arc {
	var l []api.Arc
	for _, p := range r.Perm(places)[:r.Intn(min(places, api.MaxArcs)+1)] {
		l = append(l, api.Arc{Place: p, N: 1 + r.Intn(4)})
	}
	return l
}

func chanceNet(r *rand.Rand) api.Net {
	var n api.Net
	for i := range r.Intn(6) {
		n.Places = append(n.Places, api.Place{Name: fmt.Sprint("p", i), Tokens: r.Intn(6)})
	}
	for i := range r.Intn(6) {
		places := len(n.Places)
		n.Trans = append(n.Trans, api.Trans{
			Name: fmt.Sprint("t", i), Delay: r.Intn(4), Prio: r.Intn(3),
			In: chanceArcs(r, places), Not: chanceArcs(r, places), Out: chanceArcs(r, places),
		})
	}
	return n
}

// TestChanceNets: a row's number is what the arcs of the transition come to there, found by asking each of them (P11.1).
func TestChanceNets(t *testing.T) {
	r := rand.New(rand.NewSource(13))
	tokens := func(l []api.Arc, place int) int {
		for _, a := range l {
			if a.Place == place {
				return a.N
			}
		}
		return 0
	}
	for range 3000 {
		n := chanceNet(r)
		var want Matrix
		for p := range n.Places {
			var row []int
			for _, tr := range n.Trans {
				row = append(row, tokens(tr.Out, p)-tokens(tr.In, p))
			}
			want = append(want, row)
		}
		wantOf(t, n, want)
	}
}

// TestChanceRuns: what a run comes to is what there was at first, and for each firing what the matrix tells of it (P11.1,
// checked against mark and plain).
func TestChanceRuns(t *testing.T) {
	r := rand.New(rand.NewSource(14))
	fired := 0
	for range 10000 {
		n := chanceNet(r)
		result, e := plain.Run(n, 12)
		if e != api.OK {
			continue
		}
		counts := make([]int, len(n.Trans))
		for _, f := range result.Log {
			counts[f.Trans]++
		}
		fired += len(result.Log)
		more, ok := Right(Of(n), counts)
		if !ok || len(more) != len(n.Places) {
			t.Fatal(n, counts, more, ok)
		}
		for p, tokens := range mark.First(n) {
			if want, ok := whole.Add(tokens, more[p]); !ok || result.Marks[p]+result.Way[p] != want {
				t.Fatal(n, result, more)
			}
		}
	}
	if fired < 1000 {
		t.Error(fired)
	}
}

// TestManyRows: matrices far beyond those of a net are handled alike (P1, P11.1).
func TestManyRows(t *testing.T) {
	m := make(Matrix, 2000)
	y := make([]int, len(m))
	for i := range m {
		m[i] = slices.Repeat([]int{i}, 50)
		y[i] = 2
	}
	if l, ok := Left(y, m); !ok || len(l) != 50 || l[0] != 2000*1999 || l[49] != l[0] {
		t.Error(l, ok)
	}
	if turned := Turn(m); len(turned) != 50 || len(turned[49]) != 2000 || turned[49][1999] != 1999 {
		t.Error(len(turned))
	}
}

// TestNil: calls without anything (P1).
func TestNil(t *testing.T) {
	if m := Of(api.Net{}); len(m) != 0 {
		t.Error(m)
	}
	if m := Turn(nil); len(m) != 0 {
		t.Error(m)
	}
	if l, ok := Left(nil, nil); len(l) != 0 || !ok {
		t.Error(l, ok)
	}
	if l, ok := Right(nil, nil); len(l) != 0 || !ok {
		t.Error(l, ok)
	}
	if !Zero(nil) {
		t.Error("Zero")
	}
	if m := Of(netOf(t, strings.Repeat(" ", 9))); len(m) != 0 {
		t.Error(m)
	}
}
