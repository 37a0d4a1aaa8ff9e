package whole

import (
	"math"
	"math/big"
	"slices"
	"testing"
)

const (
	most  = math.MaxInt
	least = math.MinInt
)

// edges are the numbers around which sums and products begin to overflow.
func edges() []int {
	l := []int{0, 1, 2, 3, 5, 7, 10, 1000, most, most - 1, least, least + 1, least + 2, most / 2, most/2 + 1, least / 2, least/2 - 1, 3037000499, 3037000500}
	for _, s := range []uint{16, 31, 32, 33, 61, 62} {
		l = append(l, 1<<s, 1<<s-1, 1<<s+1)
	}
	for _, x := range slices.Clone(l) {
		l = append(l, -x)
	}
	return l
}

// asInt tells an exact number as Add, Mul and Dot have to.
func asInt(x *big.Int) (int, bool) {
	if !x.IsInt64() {
		return 0, false
	}
	return int(x.Int64()), true
}

func exact(x int) *big.Int { return big.NewInt(int64(x)) }

func TestIntHas64Bits(t *testing.T) { // P1.1
	if math.MaxInt != math.MaxInt64 {
		t.Fatal("an int must have 64 bits")
	}
}

func TestAdd(t *testing.T) { // P1.1
	for _, c := range []struct {
		a, b, sum int
		ok        bool
	}{
		{0, 0, 0, true}, {2, 3, 5, true}, {-2, 3, 1, true}, {2, -3, -1, true},
		{most, 0, most, true}, {least, 0, least, true}, {most, least, -1, true},
		{most - 1, 1, most, true}, {most, 1, 0, false}, {1, most, 0, false}, {most, most, 0, false},
		{least + 1, -1, least, true}, {least, -1, 0, false}, {-1, least, 0, false}, {least, least, 0, false},
	} {
		if sum, ok := Add(c.a, c.b); sum != c.sum || ok != c.ok {
			t.Errorf("Add(%d, %d) = %d, %v, want %d, %v", c.a, c.b, sum, ok, c.sum, c.ok)
		}
	}
}

func TestMul(t *testing.T) { // P1.1
	for _, c := range []struct {
		a, b, product int
		ok            bool
	}{
		{0, 0, 0, true}, {2, 3, 6, true}, {-2, 3, -6, true}, {-2, -3, 6, true},
		{0, least, 0, true}, {least, 0, 0, true}, {1, least, least, true}, {least, 1, least, true},
		{least, -1, 0, false}, {-1, least, 0, false}, {most, -1, -most, true}, {-1, most, -most, true},
		{least, least, 0, false}, {most, most, 0, false}, {least, most, 0, false}, {most, 2, 0, false},
		{1 << 32, 1 << 31, 0, false}, {-1 << 32, 1 << 31, least, true}, {-1 << 32, -1 << 31, 0, false},
		{1 << 32, 1 << 32, 0, false}, {3037000499, 3037000499, 9223372030926249001, true}, {3037000500, 3037000500, 0, false},
	} {
		if product, ok := Mul(c.a, c.b); product != c.product || ok != c.ok {
			t.Errorf("Mul(%d, %d) = %d, %v, want %d, %v", c.a, c.b, product, ok, c.product, c.ok)
		}
	}
}

func TestAddAndMulAreExact(t *testing.T) { // P1.1
	for _, a := range edges() {
		for _, b := range edges() {
			want, fits := asInt(new(big.Int).Add(exact(a), exact(b)))
			if sum, ok := Add(a, b); sum != want || ok != fits {
				t.Errorf("Add(%d, %d) = %d, %v, want %d, %v", a, b, sum, ok, want, fits)
			}
			want, fits = asInt(new(big.Int).Mul(exact(a), exact(b)))
			if product, ok := Mul(a, b); product != want || ok != fits {
				t.Errorf("Mul(%d, %d) = %d, %v, want %d, %v", a, b, product, ok, want, fits)
			}
		}
	}
}

func TestGcd(t *testing.T) { // P1.1
	for _, c := range []struct{ a, b, want int }{
		{0, 0, 0}, {0, 5, 5}, {0, -5, 5}, {5, 0, 5}, {-5, 0, 5}, {1, 1, 1}, {-1, -1, 1}, {12, 18, 6}, {-12, 18, 6}, {12, -18, 6}, {-12, -18, 6},
		{7, 13, 1}, {4, 8, 4}, {8, 4, 4}, {most, most, most}, {most, -most, most}, {-most, 0, most}, {0, -most, most}, {most, 7, 7}, {most, 2, 1}, {1 << 62, 3 << 40, 1 << 40},
	} {
		if g := Gcd(c.a, c.b); g != c.want {
			t.Errorf("Gcd(%d, %d) = %d, want %d", c.a, c.b, g, c.want)
		}
	}
}

func TestGcdIsTheGreatestDivisor(t *testing.T) { // P1.1
	for a := -30; a <= 30; a++ {
		for b := -30; b <= 30; b++ {
			want := 0
			for d := 1; d <= 30 && (a != 0 || b != 0); d++ {
				if a%d == 0 && b%d == 0 {
					want = d
				}
			}
			if g := Gcd(a, b); g != want {
				t.Errorf("Gcd(%d, %d) = %d, want %d", a, b, g, want)
			}
		}
	}
}

func TestDot(t *testing.T) { // P1.1
	for _, c := range []struct {
		a, b []int
		want int
		ok   bool
	}{
		{nil, nil, 0, true}, {[]int{}, nil, 0, true}, {[]int{1}, nil, 0, true}, {nil, []int{1}, 0, true},
		{[]int{1, 2, 3}, []int{4, 5, 6}, 32, true}, {[]int{1, 2, 3}, []int{4, 5}, 14, true}, {[]int{4, 5}, []int{1, 2, 3}, 14, true},
		{[]int{most}, []int{1}, most, true}, {[]int{least}, []int{1}, least, true}, {[]int{1, least}, []int{most, 1}, -1, true},
		// beyond the end of the other list nothing counts
		{[]int{1, most, most}, []int{2}, 2, true},
		// a product overflows, and another one would make up for it
		{[]int{most, most}, []int{2, -2}, 0, false}, {[]int{0, least}, []int{0, -1}, 0, false},
		// a partial sum overflows, and the whole sum would not
		{[]int{most, 1, -1}, []int{1, 1, 1}, 0, false}, {[]int{least, -1, 1}, []int{1, 1, 1}, 0, false},
		// the same in an order in which no partial sum does
		{[]int{most, -1, 1}, []int{1, 1, 1}, most, true}, {[]int{least, 1, -1}, []int{1, 1, 1}, least, true},
		{[]int{most, most}, []int{1, 1}, 0, false}, {[]int{least, least}, []int{1, 1}, 0, false},
	} {
		if got, ok := Dot(c.a, c.b); got != c.want || ok != c.ok {
			t.Errorf("Dot(%v, %v) = %d, %v, want %d, %v", c.a, c.b, got, ok, c.want, c.ok)
		}
	}
}

func TestNorm(t *testing.T) { // P1.1
	for _, c := range []struct{ l, want []int }{
		{nil, nil}, {[]int{}, nil}, {[]int{0}, []int{0}}, {[]int{0, 0}, []int{0, 0}}, {[]int{1}, []int{1}}, {[]int{-1}, []int{-1}},
		{[]int{4, -6}, []int{2, -3}}, {[]int{4, -6, 0}, []int{2, -3, 0}}, {[]int{0, 0, -5}, []int{0, 0, -1}}, {[]int{-4, -8}, []int{-1, -2}},
		{[]int{3, 5}, []int{3, 5}}, {[]int{6, 10, 15}, []int{6, 10, 15}}, {[]int{6, 10, 14}, []int{3, 5, 7}},
		{[]int{most, -most, 0}, []int{1, -1, 0}}, {[]int{most, 7}, []int{most / 7, 1}}, {[]int{most, most - 1}, []int{most, most - 1}},
	} {
		before := slices.Clone(c.l)
		got := Norm(c.l)
		if !slices.Equal(got, c.want) {
			t.Errorf("Norm(%v) = %v, want %v", before, got, c.want)
		}
		if !slices.Equal(c.l, before) {
			t.Errorf("Norm(%v) made its argument %v", before, c.l)
		}
	}
}

func TestNormIsNewMemory(t *testing.T) { // P1.1, the rule of memory
	for _, l := range [][]int{{3, 5}, {4, 6}, {0, 0}} {
		before := slices.Clone(l)
		Norm(l)[0] = 77
		if !slices.Equal(l, before) {
			t.Errorf("Norm shares memory with %v", before)
		}
	}
}

func TestMix(t *testing.T) { // P1.1
	for _, c := range []struct {
		a    int
		x    []int
		b    int
		y    []int
		want []int
		ok   bool
	}{
		{2, nil, 3, nil, nil, true}, {2, []int{1}, 3, nil, nil, true}, {2, nil, 3, []int{1}, nil, true}, {2, []int{}, 3, []int{}, nil, true},
		{2, []int{1, 0}, 3, []int{0, 5}, []int{2, 15}, true}, {-2, []int{1, 7}, 3, []int{4, 5}, []int{10, 1}, true}, {0, []int{1, 7}, 0, []int{4, 5}, []int{0, 0}, true},
		{1, []int{1, 2, 3}, 1, []int{4, 5}, []int{5, 7}, true}, {1, []int{4, 5}, 1, []int{1, 2, 3}, []int{5, 7}, true},
		{2, []int{1, most}, 1, []int{1}, []int{3}, true},
		{1, []int{most}, 1, []int{0}, []int{most}, true}, {1, []int{most}, 1, []int{1}, nil, false}, {2, []int{1, most}, -2, []int{1, most}, nil, false},
		{1, []int{1, -most}, 1, []int{1, -2}, nil, false},
		// the smallest int is refused as an element
		{1, []int{0, -most}, 1, []int{0, -1}, nil, false}, {1, []int{least}, 0, []int{0}, nil, false}, {1, []int{-most}, 1, []int{0}, []int{-most}, true},
		// and not as a product on the way to one
		{1, []int{least}, 1, []int{1}, []int{-most}, true}, {-1 << 32, []int{1 << 31}, 5, []int{1}, []int{least + 5}, true},
	} {
		x, y := slices.Clone(c.x), slices.Clone(c.y)
		got, ok := Mix(c.a, c.x, c.b, c.y)
		if !slices.Equal(got, c.want) || ok != c.ok {
			t.Errorf("Mix(%d, %v, %d, %v) = %v, %v, want %v, %v", c.a, x, c.b, y, got, ok, c.want, c.ok)
		}
		if !slices.Equal(c.x, x) || !slices.Equal(c.y, y) {
			t.Errorf("Mix(%d, %v, %d, %v) changed its arguments", c.a, x, c.b, y)
		}
	}
}

func TestMixIsNewMemory(t *testing.T) { // P1.1, the rule of memory
	x, y := []int{3, 5}, []int{7, 9}
	for _, f := range [][2]int{{1, 0}, {0, 1}} {
		m, _ := Mix(f[0], x, f[1], y)
		m[0] = 77
	}
	if x[0] != 3 || y[0] != 7 {
		t.Error("Mix shares memory with an argument")
	}
}

// TestEndsForAll: numbers for which Gcd and Norm are not specified must neither panic nor hang (P1), and the same call answers the same (P2).
func TestEndsForAll(t *testing.T) {
	for _, a := range edges() {
		for _, b := range edges() {
			if Gcd(a, b) != Gcd(a, b) {
				t.Errorf("Gcd(%d, %d) is not always the same", a, b)
			}
			if !slices.Equal(Norm([]int{a, b}), Norm([]int{a, b})) {
				t.Errorf("Norm(%d, %d) is not always the same", a, b)
			}
			x, xok := Mix(a, []int{b, a}, b, []int{a, b})
			y, yok := Mix(a, []int{b, a}, b, []int{a, b})
			if !slices.Equal(x, y) || xok != yok || !xok && len(x) > 0 {
				t.Errorf("Mix(%d, .., %d, ..) is not always the same, or tells something beside false", a, b)
			}
			d, ok := Dot([]int{a, b}, []int{b, a})
			e, again := Dot([]int{a, b}, []int{b, a})
			if d != e || ok != again || !ok && d != 0 {
				t.Errorf("Dot of %d, %d is not always the same, or tells something beside false", a, b)
			}
		}
	}
}
