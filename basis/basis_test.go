package basis

import (
	"fmt"
	"math"
	"math/big"
	"math/rand"
	"slices"
	"testing"

	"marblerun/api"
	"marblerun/matrix"
	"marblerun/net"
	"marblerun/parse"
	"marblerun/plain"
	"marblerun/print"
)

const (
	top    = math.MaxInt
	bottom = math.MinInt
)

// netOf is the net of a text.
func netOf(t *testing.T, text string) api.Net {
	t.Helper()
	n, f := parse.Net([]byte(text))
	if f != (api.Fault{}) {
		t.Fatalf("%q: %v", text, f)
	}
	return n
}

// same reports whether two lists of vectors are equal, number by number.
func same(a, b [][]int) bool {
	return slices.EqualFunc(a, b, func(x, y []int) bool { return slices.Equal(x, y) })
}

// clone is a list of vectors that shares nothing with l.
func clone(l [][]int) [][]int {
	c := slices.Clone(l)
	for i, v := range c {
		c[i] = slices.Clone(v)
	}
	return c
}

// spoil writes into all that the vectors hold, and behind it.
func spoil(l [][]int) {
	for i := range l {
		for j := range l[i] {
			l[i][j] = 77
		}
		_ = append(l[i], 78)
		l[i] = []int{79}
	}
	_ = append(l, []int{80})
}

// wantFind: what Find comes to, also once more, when the first answer has been written over; m stays as it was (P12.1, P2
// and the rule of memory). Beside an error there are no vectors.
func wantFind(t *testing.T, m matrix.Matrix, want [][]int, wantErr api.Errno) {
	t.Helper()
	before := matrix.Matrix(clone(m))
	for range 2 {
		l, e := Find(m)
		if e != wantErr || !same(l, want) {
			t.Errorf("Find(%v): %v, %d, not %v, %d", short(before), short(l), e, short(want), wantErr)
		}
		spoil(l)
	}
	if !same(m, before) {
		t.Errorf("Find changed %v to %v", before, m)
	}
}

// short leaves out what nobody would read.
func short(l [][]int) string {
	if len(l) > 12 {
		return fmt.Sprint(l[:12], " .. ", len(l))
	}
	return fmt.Sprint(l)
}

func found(t *testing.T, m matrix.Matrix, want ...[]int) {
	t.Helper()
	wantFind(t, m, want, api.OK)
	sound(t, m, want)
}

func over(t *testing.T, m matrix.Matrix) {
	t.Helper()
	wantFind(t, m, nil, api.ErrOver)
}

func long(t *testing.T, m matrix.Matrix) {
	t.Helper()
	wantFind(t, m, nil, api.ErrLong)
}

// sound: each vector has a number for each row, none of them negative and not all 0, and times it the matrix is 0 (P12.1).
func sound(t *testing.T, m matrix.Matrix, l [][]int) {
	t.Helper()
	for _, y := range l {
		if len(y) != len(m) || matrix.Zero(y) || slices.Min(y) < 0 {
			t.Fatalf("%v: %v", short(m), y)
		}
		sums, ok := matrix.Left(y, m)
		if ok && !matrix.Zero(sums) || !ok && !cancels(y, m) {
			t.Fatalf("%v: Left of %v is %v, %v", short(m), y, sums, ok)
		}
	}
}

// cancels is for vectors whose numbers are ints, while Left of them comes to a product or a partial sum that is none.
func cancels(y []int, m matrix.Matrix) bool {
	for _, column := range matrix.Turn(m) {
		sum := big.NewInt(0)
		for i, x := range column {
			sum.Add(sum, new(big.Int).Mul(big.NewInt(int64(y[i])), big.NewInt(int64(x))))
		}
		if sum.Sign() != 0 {
			return false
		}
	}
	return true
}

// wantNet: the vectors of a net, also once more, and for the net that is read back from its text; the net stays as it was
// (P12.2, P2, P5 and the rule of memory).
func wantNet(t *testing.T, n api.Net, places, trans [][]int) {
	t.Helper()
	before := net.Copy(n)
	lines, e := print.Text(n)
	back, f := parse.Net([]byte(lines))
	if e != api.OK || f != (api.Fault{}) {
		t.Fatal(n, e, f)
	}
	for _, n := range []api.Net{n, n, back} {
		l, e := Places(n)
		if e != api.OK || !same(l, places) {
			t.Errorf("Places of %q: %v, %d, not %v", lines, l, e, places)
		}
		spoil(l)
		l, e = Trans(n)
		if e != api.OK || !same(l, trans) {
			t.Errorf("Trans of %q: %v, %d, not %v", lines, l, e, trans)
		}
		spoil(l)
	}
	if !net.Equal(n, before) {
		t.Errorf("changed %v to %v", before, n)
	}
}

func TestExample(t *testing.T) { // P12.1, P12.2
	wantNet(t, netOf(t, "place p; place q; trans t: p -> q; trans u: q -> p;"), [][]int{{1, 1}}, [][]int{{1, 1}})
	found(t, matrix.Matrix{{-1, 1}, {1, -1}}, []int{1, 1})
}

// TestNothing: without rows there are no vectors; a row without numbers, or of noughts, is one by itself (P12.1).
func TestNothing(t *testing.T) {
	found(t, nil)
	found(t, matrix.Matrix{})
	found(t, matrix.Matrix{{}}, []int{1})
	found(t, matrix.Matrix{nil, {}, nil}, []int{1, 0, 0}, []int{0, 1, 0}, []int{0, 0, 1})
	found(t, matrix.Matrix{{0}}, []int{1})
	found(t, matrix.Matrix{{0, 0, 0}}, []int{1})
	found(t, matrix.Matrix{{0, 0}, {0, 0}}, []int{1, 0}, []int{0, 1})
}

func TestOneRow(t *testing.T) { // P12.1
	for _, x := range []int{1, -1, 2, -7, top, -top} {
		found(t, matrix.Matrix{{x}})
		found(t, matrix.Matrix{{0, 0, x}})
		found(t, matrix.Matrix{{x, 0, -x}})
		found(t, matrix.Matrix{{x}, {0}}, []int{0, 1})
		found(t, matrix.Matrix{{0, 0}, {0, x}}, []int{1, 0})
	}
}

// TestOneSign: where all have the same sign, or none has one, there is nothing to be added (P12.1).
func TestOneSign(t *testing.T) {
	found(t, matrix.Matrix{{1}, {2}})
	found(t, matrix.Matrix{{-1}, {-2}, {-top}})
	found(t, matrix.Matrix{{1}, {0}, {2}}, []int{0, 1, 0})
	found(t, matrix.Matrix{{3, 1}, {4, -1}})
	found(t, matrix.Matrix{{-3, 1}, {-4, -1}, {0, 0}}, []int{0, 0, 1})
	found(t, matrix.Matrix{{0, 1}, {0, -1}}, []int{1, 1})
	found(t, matrix.Matrix{{0, 1, 0}, {0, 2, 0}, {0, -2, 0}}, []int{2, 0, 1}, []int{0, 1, 1})
	found(t, matrix.Matrix{{1, 0}, {-1, 0}, {0, 5}}, []int{1, 1, 0})
	found(t, matrix.Matrix{{1, 0}, {-1, 0}, {0, 5}, {0, -5}}, []int{1, 1, 0, 0}, []int{0, 0, 1, 1})
}

func TestEqualRows(t *testing.T) { // P12.1
	found(t, matrix.Matrix{{1, -1}, {1, -1}})
	found(t, matrix.Matrix{{1}, {1}, {-1}}, []int{1, 0, 1}, []int{0, 1, 1})
	found(t, matrix.Matrix{{1, -1}, {-1, 1}, {1, -1}, {-1, 1}}, []int{1, 1, 0, 0}, []int{1, 0, 0, 1}, []int{0, 1, 1, 0}, []int{0, 0, 1, 1})
	row := []int{2, -2}
	found(t, matrix.Matrix{row, row, {-1, 1}}, []int{1, 0, 2}, []int{0, 1, 2})
}

// TestOrder: those that remain come first, in their order; after them the new ones, for each two in order (P12.1).
func TestOrder(t *testing.T) {
	found(t, matrix.Matrix{{-2}, {3}, {0}}, []int{0, 0, 1}, []int{3, 2, 0})
	found(t, matrix.Matrix{{0}, {-2}, {0}, {3}, {0}}, []int{1, 0, 0, 0, 0}, []int{0, 0, 1, 0, 0}, []int{0, 0, 0, 0, 1}, []int{0, 3, 0, 2, 0})
	// First with third and fourth, then second with third and fourth.
	found(t, matrix.Matrix{{1}, {2}, {-1}, {-3}}, []int{1, 0, 1, 0}, []int{3, 0, 0, 1}, []int{0, 1, 2, 0}, []int{0, 3, 0, 2})
	// First with second and fourth, then second with third, then third with fourth.
	found(t, matrix.Matrix{{1}, {-1}, {2}, {-3}}, []int{1, 1, 0, 0}, []int{3, 0, 0, 1}, []int{0, 2, 1, 0}, []int{0, 0, 3, 2})
	// The same with the signs turned.
	found(t, matrix.Matrix{{-1}, {1}, {-2}, {3}}, []int{1, 1, 0, 0}, []int{3, 0, 0, 1}, []int{0, 2, 1, 0}, []int{0, 0, 3, 2})
	found(t, matrix.Matrix{{-1}, {1}, {1}}, []int{1, 1, 0}, []int{1, 0, 1})
	// In the second column the one that was new in the first one remains, and stands ahead.
	found(t, matrix.Matrix{{0, 1}, {1, 0}, {0, -1}, {-1, 0}}, []int{0, 1, 0, 1}, []int{1, 0, 1, 0})
}

func TestColumnByColumn(t *testing.T) { // P12.1
	found(t, matrix.Matrix{{-1, 0}, {1, -1}, {0, 1}}, []int{1, 1, 1})
	found(t, matrix.Matrix{{-1, 0, 0}, {2, -1, 0}, {0, 3, -1}, {0, 0, 5}}, []int{30, 15, 5, 1})
	found(t, matrix.Matrix{{1, 1}, {-1, 1}})
	found(t, matrix.Matrix{{1, 2}, {-1, -2}}, []int{1, 1})
	found(t, matrix.Matrix{{1, 2}, {-1, -1}})
	found(t, matrix.Matrix{{1, -2}, {-1, 2}, {3, 0}, {0, -4}, {-1, 1}}, []int{1, 1, 0, 0, 0}, []int{0, 6, 2, 3, 0}, []int{0, 0, 4, 3, 12}, []int{3, 0, 1, 0, 6})
}

// TestSupports: a vector goes whose support contains that of another one, whichever stands first (P12.1).
func TestSupports(t *testing.T) {
	// In the second column 1 1 1 1 is new, beside 1 0 0 1 and 0 1 1 0, which remain.
	found(t, matrix.Matrix{{1, 1}, {1, 0}, {-1, 0}, {-1, -1}}, []int{1, 0, 0, 1}, []int{0, 1, 1, 0})
	// Here 1 3 3 1 is the second of three new ones.
	found(t, matrix.Matrix{{1, 0}, {-1, 1}, {1, -2}, {-1, 3}}, []int{1, 2, 1, 0}, []int{0, 1, 2, 1})
	// And here there is 1 1 1 1 twice, between 1 2 1 0 and 1 0 1 2.
	found(t, matrix.Matrix{{1, 2}, {-1, 0}, {1, -2}, {-1, 0}}, []int{1, 2, 1, 0}, []int{1, 0, 1, 2})
	// 6 3 1 0 6 goes, for 1 1 0 0 0 and for 3 0 1 0 6, which stands behind it.
	found(t, matrix.Matrix{{1, -2}, {-1, 2}, {3, 0}, {0, -4}, {-1, 1}}, []int{1, 1, 0, 0, 0}, []int{0, 6, 2, 3, 0}, []int{0, 0, 4, 3, 12}, []int{3, 0, 1, 0, 6})
}

// TestMinimal: of several with equal supports the first one stays, where it stands (P12.1).
func TestMinimal(t *testing.T) {
	for _, c := range []struct{ lines, want [][]int }{
		{nil, nil},
		{[][]int{{1, 0, 5}}, [][]int{{1, 0, 5}}},
		{[][]int{{1, 2}, {2, 1}}, [][]int{{1, 2}}},
		{[][]int{{2, 1}, {1, 2}, {3, 4}}, [][]int{{2, 1}}},
		{[][]int{{1, 1}, {1, 0}}, [][]int{{1, 0}}},
		{[][]int{{1, 0}, {1, 1}}, [][]int{{1, 0}}},
		{[][]int{{1, 0}, {0, 1}}, [][]int{{1, 0}, {0, 1}}},
		{[][]int{{5, 0}, {0, 1}, {3, 0}, {1, 1}, {0, 4}}, [][]int{{5, 0}, {0, 1}}},
		{[][]int{{0, 1}, {5, 0}, {0, 4}, {3, 0}}, [][]int{{0, 1}, {5, 0}}},
		// What follows the vector has no part in it.
		{[][]int{{1, 0, 7}, {0, 1, 0}, {1, 0, 0}}, [][]int{{1, 0, 7}, {0, 1, 0}}},
	} {
		if got := minimal(c.lines, 2); !same(got, c.want) {
			t.Errorf("%v: %v, not %v", c.lines, got, c.want)
		}
	}
}

// TestDivisors: numbers with a divisor in common count as often as needed, and no more; what is new is divided by its Norm
// (P12.1).
func TestDivisors(t *testing.T) {
	found(t, matrix.Matrix{{4}, {-6}}, []int{3, 2})
	found(t, matrix.Matrix{{-4}, {6}}, []int{3, 2})
	found(t, matrix.Matrix{{-4}, {4}}, []int{1, 1})
	found(t, matrix.Matrix{{12}, {-8}, {-9}}, []int{2, 3, 0}, []int{3, 0, 4})
	found(t, matrix.Matrix{{top}, {-top}}, []int{1, 1})
	// 2 1 0 and 0 1 2 come to 2 2 2.
	found(t, matrix.Matrix{{1, 1}, {-2, 0}, {1, -1}}, []int{1, 1, 1})
	// With its row divided too, which is 0 0 2 at first, the last one isn't needed twice.
	found(t, matrix.Matrix{{1, 1, 1}, {-2, 0, 0}, {1, -1, 0}, {0, 0, -1}}, []int{1, 1, 1, 1})
	// Where the row has a divisor, and the vector has none, nothing is divided.
	found(t, matrix.Matrix{{1, 6}, {-1, 0}, {0, -1}}, []int{1, 1, 6})
	found(t, matrix.Matrix{{1, 5}, {-1, 5}, {0, -2}}, []int{1, 1, 5})
	found(t, matrix.Matrix{{1, 6}, {-1, 4}, {0, -5}, {0, 1}}, []int{0, 0, 1, 5}, []int{1, 1, 2, 0})
	// The numbers themselves, as factors, would come to no int.
	found(t, matrix.Matrix{{1 << 61, 1 << 61}, {-1 << 61, -1 << 61}}, []int{1, 1})
	found(t, matrix.Matrix{{1 << 61, 3}, {-1 << 60, -6}, {0, 3}}, []int{1, 2, 3})
	found(t, matrix.Matrix{{top, 1}, {-top, 1}, {0, -1}}, []int{1, 1, 2})
}

// mixes: the numbers that a pair of rows comes to, above each other, are ints, or one is none (P12.1). The first column
// takes the first row a times and the second one b times, whichever of them is negative there and whichever stands first.
func mixes(t *testing.T, a, x, b, y int, ok bool) {
	t.Helper()
	for _, sign := range []int{1, -1} {
		for _, m := range []matrix.Matrix{
			{{sign * b, x}, {-sign * a, y}},
			{{-sign * a, y}, {sign * b, x}},
			{{0, 0}, {sign * b, x}, {-sign * a, y}},
			{{sign * b, 0, x, 0}, {-sign * a, 0, y, 0}},
		} {
			switch {
			case !ok:
				over(t, m)
			case len(m) == 3:
				found(t, m, []int{1, 0, 0})
			default:
				found(t, m)
			}
		}
	}
}

// TestBounds: products and sums that are just ints, and are none any more, or are the smallest int, at both edges (P12.1).
func TestBounds(t *testing.T) {
	// Sums.
	mixes(t, 1, top-1, 1, 1, true)
	mixes(t, 1, top, 1, 1, false)
	mixes(t, 1, top, 1, top, false)
	mixes(t, 1, 1<<62, 1, 1<<62-1, true)
	mixes(t, 1, 1<<62, 1, 1<<62, false)
	mixes(t, 1, -top+1, 1, -1, true)
	mixes(t, 1, -top, 1, -1, false)
	mixes(t, 1, -top, 1, -2, false)
	mixes(t, 1, -1<<62, 1, -1<<62+1, true)
	mixes(t, 1, -1<<62, 1, -1<<62, false)
	mixes(t, 1, -1<<62, 1, -1<<62-1, false)
	mixes(t, 1, top, 1, 5-top, true)
	// Products.
	mixes(t, 2, 1<<62-1, 1, 0, true)
	mixes(t, 2, 1<<62-1, 1, 1, true)
	mixes(t, 2, 1<<62-1, 1, 2, false)
	mixes(t, 2, 1<<62, 1, 0, false)
	mixes(t, 2, -1<<62+1, 1, 0, true)
	mixes(t, 2, -1<<62+1, 1, -1, true)
	mixes(t, 2, -1<<62+1, 1, -2, false)
	mixes(t, 2, -1<<62, 1, 0, false)
	mixes(t, 2, -1<<62-1, 1, 0, false)
	mixes(t, 7, top/7, 1, 0, true)
	mixes(t, 7, top/7, 3, -1, true)
	mixes(t, 7, top/7+1, 3, 0, false)
	mixes(t, 1<<31, 1<<32-1, 1<<31-1, 1, true)
	mixes(t, 1<<31, 1<<32-1, 1<<31+1, 1, false)
	mixes(t, 1<<31, 1-1<<32, 1<<31-1, -1, true)
	mixes(t, 1<<31, 1-1<<32, 1<<31+1, -1, false)
	// The column's own products, whose sum is 0, are ints, or are none.
	mixes(t, 73, 1, top/73, 0, true)
	mixes(t, 1<<32, 1, 1<<31-1, 0, true)
	mixes(t, 1<<32, 1, 1<<31+1, 0, false)
	mixes(t, 1<<62, 1, 1, 0, true)
	mixes(t, 1<<62, 1, 3, 0, false)
	mixes(t, top, 1, 2, 0, false)
	mixes(t, top, 1, top-1, 0, false)
	// A product is none, though the sum is an int.
	mixes(t, 2, 1<<62, 1, -1, false)
	mixes(t, 2, 1<<62, 1, -top, false)
	mixes(t, 3, top, 2, -top, false)
	// A product is the smallest int, though the sum is above it.
	mixes(t, 2, -1<<62, 1, 1, false)
	mixes(t, 2, -1<<62, 1, top, false)
	mixes(t, 1<<32, -1<<31, 3, 1, false)
}

// TestVectorBounds: the numbers of the vectors are ints too (P12.1).
func TestVectorBounds(t *testing.T) {
	for _, c := range []struct {
		factor int
		ok     bool
	}{{top, true}, {1 << 62, true}} {
		found(t, matrix.Matrix{{-c.factor}, {1}}, []int{1, c.factor})
	}
	// The vector 1 2^31, that many times.
	found(t, matrix.Matrix{{-1 << 31, 0}, {1, -1<<32 + 1}, {0, 1}}, []int{1, 1 << 31, 1 << 31 * (1<<32 - 1)})
	over(t, matrix.Matrix{{-1 << 31, 0}, {1, -1 << 32}, {0, 1}})
	found(t, matrix.Matrix{{-1 << 31, -1}, {1, 0}, {0, 1<<32 - 1}}, []int{1<<32 - 1, 1 << 31 * (1<<32 - 1), 1})
	over(t, matrix.Matrix{{-1 << 31, -1}, {1, 0}, {0, 1 << 32}})
	// Both hold some of the first row: their sum.
	found(t, matrix.Matrix{{1, 0}, {-1, 1}, {-1, -top + 1}}, []int{top, top - 1, 1})
	over(t, matrix.Matrix{{1, 0}, {-1, 1}, {-1, -top}})
}

// TestBeforeNorm: a sum that the Norm would bring back is no int all the same (P12.1).
func TestBeforeNorm(t *testing.T) {
	half := 1 << 61
	found(t, matrix.Matrix{{1, 1, half}, {-2, 0, 0}, {1, -1, half - 1}})
	found(t, matrix.Matrix{{1, 1, half}, {-2, 0, -1}, {1, -1, half}, {0, 0, 1 - 2*half}}, []int{1, 1, 1, 1})
	over(t, matrix.Matrix{{1, 1, half}, {-2, 0, 0}, {1, -1, half}})
	found(t, matrix.Matrix{{1, 1, -half}, {-2, 0, 0}, {1, -1, 1 - half}})
	over(t, matrix.Matrix{{1, 1, -half}, {-2, 0, 0}, {1, -1, -half}})
	over(t, matrix.Matrix{{1, 1, -half}, {-2, 0, -1}, {1, -1, -half}})
}

// TestOverOnlyWhereNew: rows that nothing is made from may have any numbers (P12.1).
func TestOverOnlyWhereNew(t *testing.T) {
	found(t, matrix.Matrix{{1, top}, {2, top}})
	found(t, matrix.Matrix{{0, 0}, {-3, top}, {-2, top}}, []int{1, 0, 0})
	found(t, matrix.Matrix{{1, 1}, {-1, -1}, {0, top}}, []int{1, 1, 0})
	// The second column leaves none of the two that would be too much in the third one.
	found(t, matrix.Matrix{{0, 1, top}, {0, 1, top}, {0, 0, -1}})
	// A row that is too much comes too late to be one of two.
	over(t, matrix.Matrix{{1, 0}, {-1, 0}, {1, top}, {-1, 1}})
	over(t, matrix.Matrix{{0, 0}, {1, 0}, {-1, top}, {1, 1}})
}

// ones are so many rows that are alike.
func ones(count int, row ...int) matrix.Matrix {
	var m matrix.Matrix
	for range count {
		m = append(m, slices.Clone(row))
	}
	return m
}

// count: how many vectors there are, with numbers as they must be (P12.1).
func count(t *testing.T, want int, parts ...matrix.Matrix) {
	t.Helper()
	m := slices.Concat(parts...)
	before := clone(m)
	l, e := Find(m)
	if e != api.OK || len(l) != want || !same(m, before) {
		t.Errorf("%v: %d vectors, %d, not %d", short(m), len(l), e, want)
	}
	sound(t, m, l)
}

// TestMaxRows: as many as MaxRows when one is added, and one more (P12.1).
func TestMaxRows(t *testing.T) {
	// 20 times 20 new ones, and those that remain.
	count(t, 400, ones(20, 1), ones(20, -1))
	count(t, 400, ones(20, -1), ones(20, 1))
	count(t, 400, ones(1, 1), ones(400, -1))
	count(t, 400, ones(398, 0), ones(1, 1), ones(2, -1))
	count(t, 400, ones(399, 0), ones(1, 1), ones(1, -1))
	count(t, 400, ones(1, 1), ones(399, 0), ones(1, -1))
	long(t, slices.Concat(ones(20, 1), ones(20, -1), ones(1, 0)))
	long(t, slices.Concat(ones(1, 0), ones(20, 1), ones(20, -1)))
	long(t, slices.Concat(ones(1, 1), ones(401, -1)))
	long(t, slices.Concat(ones(399, 0), ones(1, 1), ones(2, -1)))
	long(t, slices.Concat(ones(400, 0), ones(1, 1), ones(1, -1)))
	long(t, slices.Concat(ones(1000, 0), ones(1, 1), ones(1, -1)))
	long(t, slices.Concat(ones(200, 1), ones(200, -1)))
	// Those that don't remain don't count.
	count(t, 400, ones(500, 1), ones(399, 0), ones(0, -1), ones(1, 0))
	count(t, 399, ones(399, 0), ones(700, 1))
	count(t, 400, ones(20, 1), ones(20, -1), ones(0, 0))
	// Where none is added, there may be more.
	count(t, 401, ones(401, 0))
	count(t, 1000, ones(1000, 0, 0))
	count(t, 700, ones(700, 0, 0, 0), ones(50, 0, -1, 0))
	count(t, 0, ones(1000, 1))
	count(t, 500, ones(500))
	// Also in a later column, or in none but that.
	count(t, 400, ones(399, 0, 0), ones(1, 0, 1), ones(1, 0, -1))
	long(t, slices.Concat(ones(400, 0, 0), ones(1, 0, 1), ones(1, 0, -1)))
	long(t, slices.Concat(ones(20, 1, 0), ones(20, -1, 0), ones(1, 0, 1), ones(1, 0, -1)))
	count(t, 397, ones(18, 1, 0), ones(22, -1, 0), ones(1, 0, 1), ones(1, 0, -1))
	long(t, slices.Concat(ones(20, 0, 0, 1), ones(21, 0, 0, -1)))
}

// TestMaxRowsBeforeRemoving: those count that are removed when all are added (P12.1).
func TestMaxRowsBeforeRemoving(t *testing.T) {
	// In the second column 10 and 40 are of different signs, and of the 400 new ones 40 are left.
	count(t, 40, ones(1, 1, 1), ones(4, 1, -1), ones(10, -1, 0))
	count(t, 1, ones(1, 1, 0), ones(1, -1, 0))
	long(t, slices.Concat(ones(1, 1, 1), ones(4, 1, -1), ones(10, -1, 0), ones(1, 0, 0)))
	long(t, slices.Concat(ones(4, 1, 1), ones(4, 1, -1), ones(8, -1, 0)))
	long(t, slices.Concat(ones(1, 1, 1), ones(4, 1, -1), ones(11, -1, 0)))
}

// TestWhichError: what comes first is told; of one that is no int, and one too many, the former (P12.1, and the rule of the
// order of errors).
func TestWhichError(t *testing.T) {
	// The last pair of all, 20 times 20, is the one that is no int.
	last := slices.Concat(ones(19, 1, 0), ones(1, 1, top), ones(19, -1, 0), ones(1, -1, 1))
	over(t, last)
	over(t, slices.Concat(last, ones(1, 0, 0)))
	long(t, slices.Concat(last, ones(2, 0, 0)))
	// The first pair of all.
	first := slices.Concat(ones(1, 1, top), ones(19, 1, 0), ones(1, -1, 1), ones(19, -1, 0))
	over(t, first)
	over(t, slices.Concat(first, ones(1, 0, 0)))
	over(t, slices.Concat(first, ones(400, 0, 0)))
	long(t, slices.Concat(ones(1, -1, 0), first, ones(400, 0, 0)))
	// One in a column, the other in the next one.
	long(t, slices.Concat(ones(20, 1, 0), ones(20, -1, 0), ones(1, 0, 1), matrix.Matrix{{0, 0}}))
	over(t, matrix.Matrix{{1, 0, top}, {-1, 0, 1}, {0, 1, 0}, {0, -1, 0}})
	over(t, slices.Concat(matrix.Matrix{{1, 0, top}, {-1, 0, 1}}, ones(20, 0, 1, 0), ones(21, 0, -1, 0)))
	long(t, slices.Concat(ones(20, 1, 0, 0), ones(21, -1, 0, 0), matrix.Matrix{{0, 1, top}, {0, -1, 1}}))
}

// line is a vector and its row, with numbers of any size.
type line struct{ vector, row []*big.Int }

// all are the numbers of both.
func (l line) all() []*big.Int { return slices.Concat(l.vector, l.row) }

// support has a bit for each index of the vector that is not 0.
func (l line) support() uint64 {
	bits := uint64(0)
	for i, x := range l.vector {
		if x.Sign() != 0 {
			bits |= 1 << i
		}
	}
	return bits
}

// fits: an int, and not the smallest one.
func fits(x *big.Int) bool { return x.IsInt64() && x.Int64() != bottom }

// newLine is what the document makes of two lines; false, if a number is none.
func newLine(a, b line, column int) (line, bool) {
	sizeA, sizeB := new(big.Int).Abs(a.row[column]), new(big.Int).Abs(b.row[column])
	divisor := new(big.Int).GCD(nil, nil, sizeA, sizeB)
	timesA, timesB := new(big.Int).Div(sizeB, divisor), new(big.Int).Div(sizeA, divisor)
	norm := new(big.Int)
	numbers := a.all()
	for i, y := range b.all() {
		left, right := new(big.Int).Mul(timesA, numbers[i]), new(big.Int).Mul(timesB, y)
		sum := new(big.Int).Add(left, right)
		if !fits(left) || !fits(right) || !fits(sum) {
			return line{}, false
		}
		norm.GCD(nil, nil, norm, new(big.Int).Abs(sum))
		numbers[i] = sum
	}
	for _, x := range numbers {
		x.Quo(x, norm)
	}
	return line{numbers[:len(a.vector)], numbers[len(a.vector):]}, true
}

// model does as the document says, step by step, with numbers of any size.
func model(m matrix.Matrix, columns int) ([][]int, api.Errno) {
	var lines []line
	for i, row := range m {
		var l line
		for j := range m {
			l.vector = append(l.vector, big.NewInt(0))
			if i == j {
				l.vector[j].SetInt64(1)
			}
		}
		for _, x := range row {
			l.row = append(l.row, big.NewInt(int64(x)))
		}
		lines = append(lines, l)
	}
	for column := range columns {
		next := slices.DeleteFunc(slices.Clone(lines), func(l line) bool { return l.row[column].Sign() != 0 })
		for j := range lines {
			for k := j + 1; k < len(lines); k++ {
				if lines[j].row[column].Sign()*lines[k].row[column].Sign() != -1 {
					continue
				}
				l, ok := newLine(lines[j], lines[k], column)
				if !ok {
					return nil, api.ErrOver
				}
				if next = append(next, l); len(next) > api.MaxRows {
					return nil, api.ErrLong
				}
			}
		}
		var supports []uint64
		for _, l := range next {
			supports = append(supports, l.support())
		}
		lines = nil
		for j, mine := range supports {
			least := true
			for k, its := range supports {
				if mine == its && k < j || mine != its && mine&its == its {
					least = false
				}
			}
			if least {
				lines = append(lines, next[j])
			}
		}
	}
	var found [][]int
	for _, l := range lines {
		var v []int
		for _, x := range l.vector {
			v = append(v, int(x.Int64()))
		}
		found = append(found, v)
	}
	return found, api.OK
}

// chanceMatrix is a matrix of small numbers, or also of some at the edges, though not of the smallest int.
func chanceMatrix(r *rand.Rand, rows, columns, size int, wide bool) matrix.Matrix {
	edges := []int{top, -top, 1 << 62, -1 << 62, 1<<62 - 1, 1 << 61, -1 << 61, 1 << 32, -1 << 31, 1 << 31, 6 << 30, -3 << 31}
	var m matrix.Matrix
	for range rows {
		row := make([]int, columns)
		for j := range row {
			row[j] = r.Intn(2*size+1) - size
			if wide && r.Intn(3) == 0 {
				row[j] = edges[r.Intn(len(edges))]
			}
		}
		m = append(m, row)
	}
	return m
}

// TestChanceModel: what the document says, step by step, with numbers of any size (P12.1, P2 and the rule of memory).
func TestChanceModel(t *testing.T) {
	r := rand.New(rand.NewSource(12))
	ends, vectors := map[api.Errno]int{}, 0
	try := func(m matrix.Matrix, columns int) {
		want, e := model(m, columns)
		wantFind(t, m, want, e)
		if e == api.OK {
			sound(t, m, want)
		}
		ends[e]++
		vectors += len(want)
		if t.Failed() {
			t.FailNow()
		}
	}
	for i := range 12000 {
		columns := r.Intn(5)
		try(chanceMatrix(r, r.Intn(7), columns, 1+r.Intn(5), i%3 == 0), columns)
	}
	for range 3000 {
		columns := 1 + r.Intn(6)
		try(chanceMatrix(r, 4+r.Intn(8), columns, 1+r.Intn(100), false), columns)
	}
	for range 60 {
		columns := 1 + r.Intn(6)
		try(chanceMatrix(r, 10+r.Intn(30), columns, 1, false), columns)
	}
	if ends[api.OK] < 10000 || ends[api.ErrOver] < 500 || ends[api.ErrLong] < 20 || vectors < 20000 {
		t.Errorf("the matrices are one-sided: ends %v, %d vectors", ends, vectors)
	}
}

// TestChanceComplete: among vectors of small numbers, each one times which the matrix is 0 has a vector of the basis within
// its support; no vector of the basis has another one within its own, and none has a divisor (P12.1).
func TestChanceComplete(t *testing.T) {
	r := rand.New(rand.NewSource(13))
	within := func(y, x []int) bool {
		for i := range y {
			if y[i] != 0 && x[i] == 0 {
				return false
			}
		}
		return true
	}
	solutions := 0
	for range 3000 {
		rows, columns := 1+r.Intn(4), r.Intn(4)
		m := chanceMatrix(r, rows, columns, 1+r.Intn(2), false)
		l, e := Find(m)
		if e != api.OK {
			t.Fatal(m, e)
		}
		for i, y := range l {
			for j, x := range l {
				if i != j && within(y, x) {
					t.Fatalf("%v: %v within %v", m, y, x)
				}
			}
			for d := 2; d <= slices.Max(y); d++ {
				if !slices.ContainsFunc(y, func(n int) bool { return n%d != 0 }) {
					t.Fatalf("%v: %v has %d", m, y, d)
				}
			}
		}
		x := make([]int, rows)
		for code := range 1 << (2 * rows) {
			for i := range x {
				x[i] = code >> (2 * i) & 3
			}
			if sums, ok := matrix.Left(x, m); code == 0 || !ok || !matrix.Zero(sums) {
				continue
			}
			solutions++
			if !slices.ContainsFunc(l, func(y []int) bool { return within(y, x) }) {
				t.Fatalf("%v: %v has none of %v", m, x, l)
			}
		}
	}
	if solutions < 3000 {
		t.Error(solutions)
	}
}

func TestNets(t *testing.T) { // P12.2
	for _, c := range []struct {
		text          string
		places, trans [][]int
	}{
		{"place p; trans t @2: p -> p;", [][]int{{1}}, [][]int{{1}}},
		{"place p; trans t: p ->;", nil, nil},
		{"place p; trans t: -> p;", nil, nil},
		{"place p; trans t: -> p; trans u: p ->;", nil, [][]int{{1, 1}}},
		{"place p; place q; trans t: p -> q;", [][]int{{1, 1}}, nil},
		{"place p; place q; trans t: p*2 -> q*3;", [][]int{{3, 2}}, nil},
		{"place p; place q; trans t: p*2 -> q; trans u: q -> p*2;", [][]int{{1, 2}}, [][]int{{1, 1}}},
		{"place p; place q; trans t: p*2 -> q; trans u: q -> p*3;", nil, nil},
		{"place p; trans t: -> p*2; trans u: p*3 ->;", nil, [][]int{{3, 2}}},
		{"place a; place b; place c; trans t: a -> b; trans u: a -> c;", [][]int{{1, 1, 1}}, nil},
		{"place a; place b; place c; trans t: a -> b, c;", [][]int{{1, 1, 0}, {1, 0, 1}}, nil},
		{"place a; place b; place c; trans t: b, c -> a;", [][]int{{1, 1, 0}, {1, 0, 1}}, nil},
		// A place that is only asked of has no part in it.
		{"place p; place q; trans t: p, ~q -> p;", [][]int{{1, 0}, {0, 1}}, [][]int{{1}}},
		// One that nothing gives to and nothing takes from remains by itself.
		{"place p; place i = 4; place q; trans t: p -> q;", [][]int{{0, 1, 0}, {1, 0, 1}}, nil},
		{"place p; trans t: p ->; trans n: ->;", nil, [][]int{{0, 1}}},
		// Two who share one thing, and give it back.
		{
			"place key = 1; place a = 1; place b = 1; place ina; place inb; trans ta @1: a, key -> ina; trans la @2: ina -> a, key; trans tb @1: b, key -> inb; trans lb @3: inb -> b, key;",
			[][]int{{0, 1, 0, 1, 0}, {0, 0, 1, 0, 1}, {1, 0, 0, 1, 1}}, [][]int{{1, 1, 0, 0}, {0, 0, 1, 1}},
		},
	} {
		wantNet(t, netOf(t, c.text), c.places, c.trans)
	}
}

// TestNetsWithoutAny: without places, without transitions, and without both: the matrix has no rows, or rows without
// numbers, and turned no rows at all (P12.2).
func TestNetsWithoutAny(t *testing.T) {
	wantNet(t, api.Net{}, nil, nil)
	wantNet(t, netOf(t, "trans t: ->;"), nil, nil)
	wantNet(t, netOf(t, "trans t @1: ->; trans u: ->;"), nil, nil)
	wantNet(t, netOf(t, "place p;"), [][]int{{1}}, nil)
	wantNet(t, netOf(t, "place p = 3; place q;"), [][]int{{1, 0}, {0, 1}}, nil)
	wantNet(t, netOf(t, "place p; trans t: ->;"), [][]int{{1}}, [][]int{{1}})
	wantNet(t, netOf(t, "place p; place q; trans t: ->; trans u: ->;"), [][]int{{1, 0}, {0, 1}}, [][]int{{1, 0}, {0, 1}})
}

// chainNet: each of so many places gives 1000000 tokens for one of the one ahead.
func chainNet(places int) api.Net {
	var n api.Net
	for i := range places {
		n.Places = append(n.Places, api.Place{Name: fmt.Sprint("p", i)})
		if i > 0 {
			n.Trans = append(n.Trans, api.Trans{Name: fmt.Sprint("t", i), In: []api.Arc{{Place: i - 1, N: 1}}, Out: []api.Arc{{Place: i, N: api.MaxNum}}})
		}
	}
	return n
}

// crossNet: so many places each of which takes from the first one, and as many each of which gives to it.
func crossNet(t *testing.T, in, out int) api.Net {
	t.Helper()
	n := api.Net{Places: []api.Place{{Name: "p"}}}
	for i := range in {
		n.Trans = append(n.Trans, api.Trans{Name: fmt.Sprint("i", i), Out: []api.Arc{{Place: 0, N: 1}}})
	}
	for i := range out {
		n.Trans = append(n.Trans, api.Trans{Name: fmt.Sprint("o", i), In: []api.Arc{{Place: 0, N: 1}}})
	}
	return n
}

// TestNetErrors: nets whose vectors are too much (P12.2).
func TestNetErrors(t *testing.T) {
	m := api.MaxNum
	wantNet(t, chainNet(4), [][]int{{m * m * m, m * m, m, 1}}, nil)
	n := chainNet(5)
	if l, e := Places(n); e != api.ErrOver || len(l) != 0 {
		t.Error(l, e)
	}
	if l, e := Trans(n); e != api.OK || len(l) != 0 {
		t.Error(l, e)
	}
	n = crossNet(t, 16, 16)
	if l, e := Trans(n); e != api.OK || len(l) != 256 {
		t.Error(len(l), e)
	}
	if l, e := Places(n); e != api.OK || len(l) != 0 {
		t.Error(l, e)
	}
	// Beyond what is valid there are enough of them.
	n = crossNet(t, 20, 20)
	if l, e := Trans(n); e != api.OK || len(l) != 400 {
		t.Error(len(l), e)
	}
	n = crossNet(t, 20, 21)
	if l, e := Trans(n); e != api.ErrLong || len(l) != 0 {
		t.Error(l, e)
	}
	// 16 times 16 pairs, of which 8 times 8 times 4 are of different signs in the next row.
	n = crossNet(t, 16, 16)
	n.Places = append(n.Places, api.Place{Name: "q"})
	for i := range 8 {
		n.Trans[i].Out = append(n.Trans[i].Out, api.Arc{Place: 1, N: 1})
		n.Trans[i+8].In = []api.Arc{{Place: 1, N: 1}}
	}
	if e := net.Check(n); e != api.OK {
		t.Fatal(e)
	}
	if l, e := Trans(n); e != api.ErrLong || len(l) != 0 {
		t.Error(l, e)
	}
}

// chanceArcs are arcs to different places.
func chanceArcs(r *rand.Rand, places, most, size int) []api.Arc {
	var l []api.Arc
	for _, p := range r.Perm(places)[:min(places, r.Intn(most+1))] {
		l = append(l, api.Arc{Place: p, N: 1 + r.Intn(size)})
	}
	return l
}

func chanceNet(r *rand.Rand) api.Net {
	var n api.Net
	size := 1 + r.Intn(3)
	for i := range r.Intn(7) {
		n.Places = append(n.Places, api.Place{Name: fmt.Sprint("p", i), Tokens: r.Intn(6)})
	}
	for i := range r.Intn(7) {
		places := len(n.Places)
		n.Trans = append(n.Trans, api.Trans{
			Name: fmt.Sprint("t", i), Delay: r.Intn(4), Prio: r.Intn(3),
			In: chanceArcs(r, places, 2, size), Not: chanceArcs(r, places, 1, 4), Out: chanceArcs(r, places, 2, size),
		})
	}
	return n
}

// TestChanceNets: Places and Trans are Find of the matrix and of its Turn; as long as a net runs, the tokens that are there
// and on their way, weighted by a vector of places, come to the same; when each transition has fired as often as a vector of
// transitions tells, nothing has changed (P12.2, P6, P2, P5).
func TestChanceNets(t *testing.T) {
	r := rand.New(rand.NewSource(14))
	places, trans, fired := 0, 0, 0
	for range 4000 {
		n := chanceNet(r)
		m := matrix.Of(n)
		wantPlaces, e := model(m, len(n.Trans))
		if e != api.OK {
			t.Fatal(n, e)
		}
		turned := matrix.Turn(m)
		wantTrans, e := model(turned, len(n.Places))
		if e != api.OK {
			t.Fatal(n, e)
		}
		wantNet(t, n, wantPlaces, wantTrans)
		places, trans = places+len(wantPlaces), trans+len(wantTrans)
		for _, x := range wantTrans {
			if change, ok := matrix.Right(m, x); !ok || !matrix.Zero(change) {
				t.Fatal(n, x, change)
			}
		}
		for horizon := range 8 {
			result, e := plain.Run(n, horizon)
			if e != api.OK {
				break
			}
			fired += len(result.Log)
			for _, y := range wantPlaces {
				sum := 0
				for p, weight := range y {
					sum += weight * (n.Places[p].Tokens - result.Marks[p] - result.Way[p])
				}
				if sum != 0 {
					t.Fatal(n, y, result)
				}
			}
		}
		if t.Failed() {
			return
		}
	}
	if places < 4000 || trans < 3000 || fired < 4000 {
		t.Errorf("the nets are one-sided: %d, %d, %d firings", places, trans, fired)
	}
}

// TestSharesNothing: vectors of one answer, and of two, are lists of their own, also of rows that are one and the same list
// (the rule of memory).
func TestSharesNothing(t *testing.T) {
	row := []int{0, 0}
	m := matrix.Matrix{row, row, {1, 1}, {-1, -1}}
	a, _ := Find(m)
	b, _ := Find(m)
	want := [][]int{{1, 0, 0, 0}, {0, 1, 0, 0}, {0, 0, 1, 1}}
	for i := range a {
		before := clone(a)
		a[i] = append(a[i], 7)
		a[i][0] = 8
		for j := range a {
			if j != i && !slices.Equal(a[j], before[j]) {
				t.Error(i, j, a)
			}
		}
	}
	if !same(b, want) || !slices.Equal(row, []int{0, 0}) || !same(m, [][]int{{0, 0}, {0, 0}, {1, 1}, {-1, -1}}) {
		t.Error(b, row, m)
	}
	m[2][0], row[1] = 5, 5
	if !same(b, want) {
		t.Error(b)
	}
}

// TestRefused: what nothing is promised for: rows of different lengths, the smallest int, nets that are not valid: the calls
// end, and nothing panics (P1).
func TestRefused(t *testing.T) {
	for _, m := range []matrix.Matrix{
		{{1, 2}, {-1}}, {{-1}, {1, 2}}, {{}, {1}}, {{1}, {}}, {nil, {1, 2, 3}, {-4}}, {{1, 1, 1}, {-1, -1}, {0, 5}},
		{{bottom}}, {{bottom}, {1}}, {{1}, {bottom}}, {{bottom}, {bottom}}, {{bottom}, {top}}, {{bottom}, {-1}}, {{bottom}, {2}},
		{{1, bottom}, {-1, bottom}}, {{1, bottom}, {-1, 5}}, {{2, bottom}, {-1, 0}}, {{bottom, 1}, {1 << 62, 1}}, {{0, bottom}, {3, 4}},
	} {
		before := clone(m)
		l, e := Find(m)
		if e != api.OK && len(l) != 0 {
			t.Error(m, l, e)
		}
		for _, y := range l {
			if len(y) != len(m) || matrix.Zero(y) || slices.Min(y) < 0 {
				t.Error(m, y)
			}
		}
		if !same(m, before) {
			t.Error(before, m)
		}
	}
	arcs := []api.Arc{{Place: -1, N: 1}, {Place: 2, N: 5}, {Place: bottom, N: top}, {Place: top, N: bottom}, {Place: 1, N: bottom}, {Place: 1, N: -3}}
	for _, n := range []api.Net{
		{Places: make([]api.Place, 2), Trans: []api.Trans{{In: arcs, Not: arcs, Out: arcs[:2]}, {Out: arcs}, {In: arcs}}},
		{Places: make([]api.Place, 1), Trans: []api.Trans{{In: arcs}}},
		{Trans: []api.Trans{{In: arcs, Out: arcs}}},
		{Places: make([]api.Place, 100), Trans: make([]api.Trans, 200)},
	} {
		Places(n)
		Trans(n)
	}
}

// TestChanceRefused: matrices with the smallest int in them (P1).
func TestChanceRefused(t *testing.T) {
	r := rand.New(rand.NewSource(15))
	for range 5000 {
		rows, columns := 1+r.Intn(5), 1+r.Intn(4)
		m := chanceMatrix(r, rows, columns, 3, r.Intn(2) == 0)
		m[r.Intn(rows)][r.Intn(columns)] = bottom
		if l, e := Find(m); e != api.OK && e != api.ErrOver || e != api.OK && len(l) != 0 {
			t.Fatal(m, l, e)
		}
	}
}

// TestLargest: nets with as much as may be, and matrices far beyond them (P1, P12.1).
func TestLargest(t *testing.T) {
	var n api.Net
	for i := range api.MaxPlaces {
		n.Places = append(n.Places, api.Place{Name: fmt.Sprint("p", i)})
	}
	for i := range api.MaxTrans {
		n.Trans = append(n.Trans, api.Trans{Name: fmt.Sprint("t", i), In: []api.Arc{{Place: i, N: 1}}, Out: []api.Arc{{Place: (i + 1) % api.MaxPlaces, N: 1}}})
	}
	ring := slices.Repeat([]int{1}, api.MaxPlaces)
	wantNet(t, n, [][]int{ring}, [][]int{ring})
	count(t, 2000, ones(2000, make([]int, 20)...))
	count(t, 0, ones(3000, 1, -1))
	count(t, 0, matrix.Matrix{slices.Repeat([]int{-4}, 5000)})
	count(t, 1, matrix.Matrix{slices.Repeat([]int{-4}, 5000), slices.Repeat([]int{6}, 5000)})
}
