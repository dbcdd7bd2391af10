package poly

import (
	"math/big"
	"slices"

	"windowpane/api"
)

// lows writes a list of moments of one word.
func lows(numbers ...uint64) []api.Wide {
	var list []api.Wide
	for _, n := range numbers {
		list = append(list, api.Wide{Lo: n})
	}
	return list
}

// state returns the counter whose power the number of moments says.
func state(land, now int64, moments ...api.Wide) api.Poly {
	return api.Poly{P: len(moments) - 1, Land: land, Now: now, Moments: moments}
}

// same reports whether two states are equal; a nil list and an empty one are equivalent.
func same(a, b api.Poly) bool {
	return a.P == b.P && a.Land == b.Land && a.Now == b.Now && slices.Equal(a.Moments, b.Moments)
}

// copied returns the state with a list of its own.
func copied(x api.Poly) api.Poly {
	x.Moments = slices.Clone(x.Moments)
	return x
}

// at returns the state with another landmark and another tick.
func at(x api.Poly, land, now int64) api.Poly {
	x.Land, x.Now = land, now
	return x
}

// powered returns the state with another power and the same moments.
func powered(x api.Poly, p int) api.Poly {
	x.P = p
	return x
}

// changed returns the state with another moment j.
func changed(x api.Poly, j int, m api.Wide) api.Poly {
	x = copied(x)
	x.Moments[j] = m
	return x
}

// two returns 2^n, or 2^n + d.
func two(n uint, d int64) *big.Int { return plusOf(new(big.Int).Lsh(num(1), n), num(d)) }

// below returns the greatest api.Wide less n.
func below(n *big.Int) *big.Int { return minusOf(largeOf(top), n) }

// fill returns n times the same moment.
func fill(n int, m *big.Int) []api.Wide { return slices.Repeat([]api.Wide{wideOf(m)}, n) }

// level returns the counter with equal moments.
func level(p int, land, now int64, m *big.Int) api.Poly { return state(land, now, fill(p+1, m)...) }

// rise returns the counter whose moments after the first are as great as they may be.
func rise(p int, land, now int64, m *big.Int) api.Poly {
	var list []api.Wide
	for range p + 1 {
		list = append(list, wideOf(m))
		m = timesOf(m, num(now-land+1))
		if !isWide(m) {
			m = largeOf(top)
		}
	}
	return state(land, now, list...)
}

// stair returns the counter with the moment m up to j - 1 and another one from j on.
func stair(p, j int, land, now int64, m, next *big.Int) api.Poly {
	return state(land, now, slices.Concat(fill(j, m), fill(p+1-j, next))...)
}

// place is a landmark and a tick.
type place struct{ land, now int64 }

// places returns landmarks of 0, of Now, and between them; the greatest age is 1, 2, 3, many ticks, and the most that there are.
func places() []place {
	return []place{{0, 0}, {5, 5}, {last, last}, {0, 1}, {last - 1, last}, {0, 2}, {5, 7}, {last - 2, last}, {0, 6}, {9, 1008}, {0, 1<<16 - 1}, {last / 2, last}, {1, last}, {0, last - 1}, {0, last}}
}

// firsts returns moments around the ends of the words, and those around whose products with an age the api.Wide ends.
func firsts(age int64) []*big.Int {
	list := []*big.Int{num(0), num(1), num(2), num(7), two(32, 1), two(40, 5), two(63, 0), two(64, -1), two(64, 0), two(64, 1), two(100, 3), two(104, -1), two(104, 0), two(127, -1), two(127, 0), two(127, 1), below(num(1)), below(num(0))}
	quotient := new(big.Int).Div(largeOf(top), num(age))
	for d := int64(-1); d <= 1; d++ {
		if m := plusOf(quotient, num(d)); isWide(m) {
			list = append(list, m)
		}
	}
	return list
}

// validStates returns states at the limits.
func validStates() []api.Poly {
	var list []api.Poly
	for p := 0; p <= steep; p++ {
		for _, c := range places() {
			for i, m := range firsts(c.now - c.land + 1) {
				list = append(list, level(p, c.land, c.now, m), rise(p, c.land, c.now, m))
				for j := 1; j <= p && i%3 == p%3; j++ {
					list = append(list, stair(p, j, c.land, c.now, m, largeOf(rise(1, c.land, c.now, m).Moments[1])))
				}
			}
		}
	}
	return list
}

// oneBroken returns, for each condition, states that break it alone.
func oneBroken() map[int][]api.Poly {
	list := map[int][]api.Poly{
		1: {{P: -1, Now: 2}, {P: -1}, {P: -1, Land: 3, Now: last, Moments: []api.Wide{}}, state(0, 2, lows(7, 7, 7, 7, 7, 7)...), state(0, 2, fill(6, num(0))...), state(5, 5, fill(6, largeOf(top))...), state(0, 2, fill(7, num(9))...), state(0, last, fill(100, num(1))...)},
		2: {at(level(0, 0, 0, num(5)), 0, last+1), at(level(1, 0, 0, num(5)), last+1, last+1), at(level(4, 0, 0, num(0)), last, last+1), at(level(4, 0, 0, largeOf(top)), 1<<62, 1<<62), at(level(2, 0, 0, num(1)), most, most), at(level(2, 0, 0, num(1)), 0, most-1), at(level(2, 0, 0, num(0)), 0, most), at(level(2, 0, 0, num(1)), 0, most), at(level(1, 0, 0, num(1)), 7, 1<<32+7)},
		3: {at(level(0, 0, 0, num(5)), -1, 2), at(level(1, 0, 0, num(5)), -1, 0), at(level(4, 0, 0, num(5)), -1, last), at(level(4, 0, 0, largeOf(top)), least, 2), at(level(4, 0, 0, num(1)), least, 0), at(level(4, 0, 0, num(1)), least, last), at(level(4, 0, 0, num(1)), least+1, 0), at(level(0, 0, 0, num(5)), 3, 2), at(level(0, 0, 0, largeOf(top)), 1, 0), at(level(1, 0, 0, num(0)), 3, 2), at(level(4, 0, 0, num(0)), last+1, last), at(level(4, 0, 0, num(0)), 4, 2), at(level(0, 0, 0, num(1)), most, 2), at(level(4, 0, 0, num(0)), most, last), at(level(4, 0, 0, num(0)), most, 0), at(level(0, 0, 0, num(1)), 1<<32, 5), at(level(0, 0, 0, num(5)), -1<<32, 5)},
	}
	for p := 0; p <= steep; p++ {
		for _, c := range places()[:10] {
			for _, m := range []*big.Int{num(0), num(7), two(64, 0), largeOf(top)} {
				x := level(p, c.land, c.now, m)
				none, longer := powered(api.Poly{Land: c.land, Now: c.now}, p), x
				longer.Moments = fill(p+2, m)
				list[4] = append(list[4], none, longer)
				x.Moments = x.Moments[:p]
				list[4] = append(list[4], x)
			}
		}
	}
	list[5], list[6] = outOfPlace()
	return list
}

// outOfPlace returns states with one moment that is just too small, or just too great.
func outOfPlace() (low, high []api.Poly) {
	for p := 1; p <= steep; p++ {
		for j := 1; j <= p; j++ {
			for _, c := range places() {
				age := num(c.now - c.land + 1)
				for _, m := range firsts(c.now - c.land + 1) {
					less, more := minusOf(m, num(1)), plusOf(timesOf(m, age), num(1))
					if isWide(less) {
						low = append(low, stair(p, j, c.land, c.now, m, less))
					}
					if isWide(more) {
						high = append(high, stair(p, j, c.land, c.now, m, more))
					}
					// These differ from the bound in the high word alone.
					if less = minusOf(m, two(64, 0)); isWide(less) {
						low = append(low, stair(p, j, c.land, c.now, m, less))
					}
					if more = plusOf(timesOf(m, age), two(64, 0)); isWide(more) {
						high = append(high, stair(p, j, c.land, c.now, m, more))
					}
				}
				low = append(low, stair(p, j, c.land, c.now, largeOf(top), num(0)))
				high = append(high, stair(p, j, c.land, c.now, num(0), largeOf(top)))
			}
		}
	}
	return low, high
}

// hugeStates returns states with numbers near the least and the greatest int64, some of which break several conditions.
func hugeStates() []api.Poly {
	var list []api.Poly
	for _, n := range extremes() {
		for _, m := range []*big.Int{num(0), num(1), two(127, 0), largeOf(top)} {
			for p := 0; p <= steep; p++ {
				x := level(p, 3, 7, m)
				list = append(list, powered(x, int(n)), at(x, n, 7), at(x, 3, n), at(x, n, n), at(x, n, -n), at(x, n, n+1), at(x, n, n-1), at(powered(x, int(n)), n, n))
			}
		}
	}
	return list
}

// invalidStates returns states that are not valid.
func invalidStates() []api.Poly {
	list := append(hugeStates(), api.Poly{}, api.Poly{Now: 7}, api.Poly{P: 1, Land: 1})
	for _, states := range oneBroken() {
		for i, x := range states {
			if len(states) < 500 || i%9 == 0 {
				list = append(list, x)
			}
		}
	}
	return list
}

// someStates returns every nth valid state.
func someStates(n int) []api.Poly {
	var list []api.Poly
	for i, x := range validStates() {
		if i%n == 0 {
			list = append(list, x)
		}
	}
	return list
}

// extremes returns numbers that are no ticks, no values and no powers.
func extremes() []int64 {
	return []int64{least, least + 1, least + last, -1 << 62, -1<<32 - 1, -1 << 32, -1<<32 + 1, -1 << 31, -last - 1, -last, 1<<31 - 1, 1 << 31, 1 << 32, 1<<32 + 1, 1<<32 + 4, 1 << 62, most - last, most - 4, most - 1, most}
}

// edges returns the numbers around all limits.
func edges() []int64 {
	list := extremes()
	for d := int64(-2); d <= 2; d++ {
		list = append(list, d, steep+d, highest+d, -highest+d, 1<<16+d, 1<<20+d, last/2+d, last+d)
	}
	return list
}
