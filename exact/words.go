package exact

import (
	"math"
	"math/bits"

	"windowpane/api"
	"windowpane/wide"
)

// words is an unsigned number of 192 bits, the least word first. Of less than 2^31 items with squares of at most 2^126, the number times the sum of the squares is less than 2^188.
type words [3]uint64

// total returns the magnitude of the sum of the values, and whether it is negative. Less than 2^31 magnitudes of at most 2^63 add up to less than 2^94.
func total(items []api.Item) (api.Wide, bool) {
	var above, below api.Wide
	for _, x := range items {
		if x.V < 0 {
			below, _ = wide.Add(below, wide.Of(magnitude(x.V)))
		} else {
			above, _ = wide.Add(above, wide.Of(magnitude(x.V)))
		}
	}
	if size, ok := wide.Sub(above, below); ok {
		return size, false
	}
	size, _ := wide.Sub(below, above)
	return size, true
}

// squares returns the sum of the squares of the values.
func squares(items []api.Item) words {
	var sum words
	for _, x := range items {
		sum = plus(sum, wordsOf(wide.Product(magnitude(x.V), magnitude(x.V))))
	}
	return sum
}

func wordsOf(a api.Wide) words { return words{a.Lo, a.Hi} }

// plus returns a + b.
func plus(a, b words) words {
	var sum words
	carry := uint64(0)
	for i := range sum {
		sum[i], carry = bits.Add64(a[i], b[i], carry)
	}
	return sum
}

// minus returns a - b, for b of at most a.
func minus(a, b words) words {
	var difference words
	borrow := uint64(0)
	for i := range difference {
		difference[i], borrow = bits.Sub64(a[i], b[i], borrow)
	}
	return difference
}

// times returns a * b, for a product of at most 192 bits.
func times(a, b words) words {
	var product words
	for i, x := range a {
		carry := uint64(0)
		for j := i; j < len(product); j++ {
			// A product of two words and two more words are together at most 2^128 - 1.
			part, _ := wide.Add(wide.Product(x, b[j-i]), wide.Of(product[j]))
			part, _ = wide.Add(part, wide.Of(carry))
			product[j], carry = part.Lo, part.Hi
		}
	}
	return product
}

// quotient returns the valid number that equals a / n, and false if there is none with int64 parts. N is the number of the items, at least 1.
func quotient(a words, n uint64) (api.Ratio, bool) {
	top, ok := toWide(a)
	// What has more than 128 bits is too great even if n divides it.
	if !ok {
		return api.Ratio{}, false
	}
	common := wide.Gcd(top, wide.Of(n))
	top, _, _ = wide.Div(top, common)
	// Only lowest terms decide whether the number fits.
	size, ok := toInt(top, false)
	if !ok {
		return api.Ratio{}, false
	}
	return api.Ratio{Num: size, Den: int64(n / common.Lo)}, true
}

// toWide returns a as an api.Wide, and false if it is none.
func toWide(a words) (api.Wide, bool) {
	if a[2] != 0 {
		return api.Wide{}, false
	}
	return api.Wide{Hi: a[1], Lo: a[0]}, true
}

// toInt returns the number with this magnitude and sign as an int64, and false if it is none.
func toInt(size api.Wide, negative bool) (int64, bool) {
	limit := uint64(math.MaxInt64)
	if negative {
		limit++
	}
	if size.Hi != 0 || size.Lo > limit {
		return 0, false
	}
	if negative {
		// The magnitude of -2^63 wraps around to it, whether before or after the sign is changed.
		return -int64(size.Lo), true
	}
	return int64(size.Lo), true
}

// magnitude returns the absolute value; that of -2^63 is only an unsigned number.
func magnitude(n int64) uint64 {
	if n < 0 {
		return -uint64(n)
	}
	return uint64(n)
}
