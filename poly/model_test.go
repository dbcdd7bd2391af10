package poly

import (
	"math"
	"math/big"

	"windowpane/api"
)

// This file says what chapter 15 requires: word by word, with exact numbers.

const (
	least   = math.MinInt64
	most    = math.MaxInt64
	last    = 1 << 24 // the last tick
	highest = 4096    // the greatest value
	steep   = 4       // the greatest power
)

// top is the greatest api.Wide.
var top = api.Wide{Hi: math.MaxUint64, Lo: math.MaxUint64}

// power, tick and value say which numbers are valid.
func power(p int) bool   { return p > -1 && p < 5 }
func tick(n int64) bool  { return n > -1 && n < 16777217 }
func value(v int64) bool { return v > -1 && v < 4097 }

// num returns a number as a big one.
func num(n int64) *big.Int { return big.NewInt(n) }

// largeOf returns an api.Wide as a big number.
func largeOf(a api.Wide) *big.Int {
	n := new(big.Int).SetUint64(a.Hi)
	return n.Lsh(n, 64).Or(n, new(big.Int).SetUint64(a.Lo))
}

// isWide reports whether a big number is an api.Wide.
func isWide(n *big.Int) bool { return n.Sign() >= 0 && n.BitLen() < 129 }

// wideOf returns a big number that is an api.Wide as one.
func wideOf(n *big.Int) api.Wide {
	return api.Wide{Hi: new(big.Int).Rsh(n, 64).Uint64(), Lo: new(big.Int).And(n, new(big.Int).SetUint64(math.MaxUint64)).Uint64()}
}

// large returns moments as big numbers.
func large(moments []api.Wide) []*big.Int {
	var list []*big.Int
	for _, m := range moments {
		list = append(list, largeOf(m))
	}
	return list
}

func plusOf(a, b *big.Int) *big.Int  { return new(big.Int).Add(a, b) }
func minusOf(a, b *big.Int) *big.Int { return new(big.Int).Sub(a, b) }
func timesOf(a, b *big.Int) *big.Int { return new(big.Int).Mul(a, b) }

// powerOf returns a to the power n, for a of at least 0.
func powerOf(a int64, n int) *big.Int { return new(big.Int).Exp(num(a), num(int64(n)), nil) }

// ageOf returns Now - Land + 1.
func ageOf(x api.Poly) *big.Int {
	return plusOf(minusOf(num(x.Now), num(x.Land)), num(1))
}

// broken returns the conditions that a state breaks, by their order in the chapter; the last two are those of Moments[j] on both sides.
func broken(x api.Poly) []int {
	list := large(x.Moments)
	rising, bounded := true, true
	for j := 1; j < len(list) && j <= x.P; j++ {
		rising = rising && list[j-1].Cmp(list[j]) <= 0
		bounded = bounded && list[j].Cmp(timesOf(list[j-1], ageOf(x))) <= 0
	}
	var wrong []int
	for i, holds := range []bool{power(x.P), tick(x.Now), 0 <= x.Land && x.Land <= x.Now, num(int64(len(list))).Cmp(plusOf(num(int64(x.P)), num(1))) == 0, rising, bounded} {
		if !holds {
			wrong = append(wrong, i+1)
		}
	}
	return wrong
}

func valid(x api.Poly) bool { return len(broken(x)) == 0 }

// code returns the error that stands for an invalid state, if it is one.
func code(ok bool) api.Errno {
	if ok {
		return api.OK
	}
	return api.ErrState
}

// counter returns the counter with these moments, or ErrOver if one of them is not an api.Wide.
func counter(p int, land, now int64, moments []*big.Int) (api.Poly, api.Errno) {
	x := api.Poly{P: p, Land: land, Now: now}
	for _, m := range moments {
		if !isWide(m) {
			return api.Poly{}, api.ErrOver
		}
		x.Moments = append(x.Moments, wideOf(m))
	}
	return x, api.OK
}

// later is what Advance returns.
func later(x api.Poly, now int64) (api.Poly, api.Errno) {
	if !valid(x) {
		return api.Poly{}, api.ErrState
	}
	if now < x.Now || now > last {
		return api.Poly{}, api.ErrTime
	}
	return counter(x.P, x.Land, now, large(x.Moments))
}

// included is what Add returns.
func included(x api.Poly, v int64) (api.Poly, api.Errno) {
	if !valid(x) {
		return api.Poly{}, api.ErrState
	}
	if !value(v) {
		return api.Poly{}, api.ErrRange
	}
	list := large(x.Moments)
	for j := range list {
		list[j] = plusOf(list[j], timesOf(num(v), powerOf(x.Now-x.Land+1, j)))
	}
	return counter(x.P, x.Land, x.Now, list)
}

// decayed is what Ask returns.
func decayed(x api.Poly) (api.Fraction, api.Errno) {
	if !valid(x) {
		return api.Fraction{}, api.ErrState
	}
	return api.Fraction{Num: x.Moments[x.P], Den: wideOf(powerOf(x.Now-x.Land+1, x.P))}, api.OK
}

// shifted is what Rebase returns.
func shifted(x api.Poly, land int64) (api.Poly, api.Errno) {
	if !valid(x) {
		return api.Poly{}, api.ErrState
	}
	if land < 0 || land > x.Land {
		return api.Poly{}, api.ErrArg
	}
	old, list := large(x.Moments), large(x.Moments)
	for j := range list {
		list[j] = num(0)
		for i := 0; i <= j; i++ {
			ways := new(big.Int).Binomial(int64(j), int64(i))
			list[j] = plusOf(list[j], timesOf(timesOf(ways, powerOf(x.Land-land, j-i)), old[i]))
		}
	}
	return counter(x.P, land, x.Now, list)
}

// joined is what Merge returns.
func joined(a, b api.Poly) (api.Poly, api.Errno) {
	if !valid(a) || !valid(b) {
		return api.Poly{}, api.ErrState
	}
	if a.P != b.P || a.Now != b.Now {
		return api.Poly{}, api.ErrArg
	}
	land := min(a.Land, b.Land)
	left, why := shifted(a, land)
	if why != api.OK {
		return api.Poly{}, why
	}
	right, why := shifted(b, land)
	if why != api.OK {
		return api.Poly{}, why
	}
	list := large(left.Moments)
	for j, m := range large(right.Moments) {
		list[j] = plusOf(list[j], m)
	}
	return counter(a.P, land, a.Now, list)
}

// truth returns the moment j of items, by the definition of their ages.
func truth(items []api.Item, land int64, j int) *big.Int {
	sum := num(0)
	for _, item := range items {
		part := num(item.V)
		for range j {
			part = timesOf(part, num(item.T-land+1))
		}
		sum = plusOf(sum, part)
	}
	return sum
}
