// Package whole is layer 1: integers with overflow detection.
package whole

import "math"

// Add returns the sum; false, if it overflows an int.
func Add(a, b int) (int, bool) {
	sum := a + b
	// Only a negative b makes a sum smaller: anything else is a wrap-round.
	if (sum < a) != (b < 0) {
		return 0, false
	}
	return sum, true
}

// Mul returns the product; false, if it overflows an int.
func Mul(a, b int) (int, bool) {
	if b == 0 {
		return 0, true
	}
	// The smallest int divided by -1 is itself, so the division below can't tell.
	if a == math.MinInt && b == -1 {
		return 0, false
	}
	product := a * b
	if product/b != a {
		return 0, false
	}
	return product, true
}

// Gcd returns the greatest number from 1 on that divides both; 0 for 0 and 0.
func Gcd(a, b int) int {
	for b != 0 {
		a, b = b, a%b
	}
	if a < 0 {
		return -a
	}
	return a
}

// Dot returns the sum of the products as far as both lists go; false, if a product or a partial sum overflows.
func Dot(a, b []int) (int, bool) {
	sum := 0
	for i := range min(len(a), len(b)) {
		product, ok := Mul(a[i], b[i])
		if !ok {
			return 0, false
		}
		if sum, ok = Add(sum, product); !ok {
			return 0, false
		}
	}
	return sum, true
}

// Norm returns the vector divided by the Gcd of all its elements.
func Norm(l []int) []int {
	divisor := 0
	for _, x := range l {
		divisor = Gcd(divisor, x)
	}
	reduced := make([]int, len(l))
	copy(reduced, l)
	if divisor > 1 {
		for i := range reduced {
			reduced[i] /= divisor
		}
	}
	return reduced
}

// Mix returns a times x plus b times y, as far as both go; false, if an element overflows or is the smallest int.
func Mix(a int, x []int, b int, y []int) ([]int, bool) {
	mixed := make([]int, min(len(x), len(y)))
	for i := range mixed {
		sum, ok := Dot([]int{a, b}, []int{x[i], y[i]})
		// The smallest int is refused because Gcd and Norm are not specified for it.
		if !ok || sum == math.MinInt {
			return nil, false
		}
		mixed[i] = sum
	}
	return mixed, true
}
