// Package num is layer 1: checked arithmetic. See shared/doc/01-num.md.
package num

const leastInt = -1 << 63

// Add returns a + b.
func Add(a, b int64) (int64, bool) {
	s := a + b
	// A sum that wraps around moves away from a in the wrong direction.
	if (s > a) != (b > 0) {
		return 0, false
	}
	return s, true
}

// Sub returns a - b.
func Sub(a, b int64) (int64, bool) {
	d := a - b
	// A difference that wraps around moves away from a in the wrong direction.
	if (d < a) != (b > 0) {
		return 0, false
	}
	return d, true
}

// Mul returns a * b.
func Mul(a, b int64) (int64, bool) {
	if b == 0 {
		return 0, true
	}
	// The check by division below would not notice this case: -2^63 / -1 wraps around as well.
	if a == leastInt && b == -1 {
		return 0, false
	}
	p := a * b
	if p/b != a {
		return 0, false
	}
	return p, true
}

// Pow returns the power of a with the exponent n.
func Pow(a int64, n int) (int64, bool) {
	if n < 0 {
		return 0, false
	}
	if -1 <= a && a <= 1 {
		return powSmall(a, n), true
	}
	// The magnitude at least doubles in each step, so that the loop ends early also for a great n.
	p := int64(1)
	for range n {
		next, ok := Mul(p, a)
		if !ok {
			return 0, false
		}
		p = next
	}
	return p, true
}

// powSmall returns the power of a base from -1 to 1. These never overflow, so that a loop would take all n steps.
func powSmall(a int64, n int) int64 {
	if n == 0 {
		return 1
	}
	if n%2 == 0 {
		return a * a
	}
	return a
}

// FloorDiv returns the greatest integer that is not greater than a / b.
func FloorDiv(a, b int64) (int64, bool) {
	if !hasQuotient(a, b) {
		return 0, false
	}
	q := a / b
	if a%b != 0 && (a < 0) != (b < 0) {
		q--
	}
	return q, true
}

// CeilDiv returns the least integer that is not less than a / b.
func CeilDiv(a, b int64) (int64, bool) {
	if !hasQuotient(a, b) {
		return 0, false
	}
	q := a / b
	if a%b != 0 && (a < 0) == (b < 0) {
		q++
	}
	return q, true
}

// hasQuotient reports whether a / b exists and its rounded value is an int64.
func hasQuotient(a, b int64) bool {
	return b != 0 && (a != leastInt || b != -1)
}

// Mod returns a - b FloorDiv(a, b).
func Mod(a, b int64) (int64, bool) {
	if b == 0 {
		return 0, false
	}
	r := a % b
	if r != 0 && (r < 0) != (b < 0) {
		r += b
	}
	return r, true
}

// Gcd returns the greatest common divisor.
func Gcd(a, b int64) int64 {
	if a < 0 || b < 0 {
		return 0
	}
	for b != 0 {
		a, b = b, a%b
	}
	return a
}

// Bits returns the number of binary digits.
func Bits(n int64) int {
	k := 0
	for n > 0 {
		n >>= 1
		k++
	}
	return k
}

// Root returns the integer square root.
func Root(n int64) int64 {
	if n < 0 {
		return 0
	}
	r := int64(0)
	for bit := int64(1 << 31); bit > 0; bit >>= 1 {
		t := r + bit
		// The quotient is compared because the square of t may overflow.
		if t <= n/t {
			r = t
		}
	}
	return r
}
