package halve

import (
	"math"
	"math/big"

	"windowpane/api"
)

// This file says what chapter 16 requires: word by word, with exact numbers.

const (
	least   = math.MinInt64
	most    = math.MaxInt64
	last    = 1 << 24 // the last tick
	highest = 4096    // the greatest value
	oldest  = 64      // the greatest number of sums
	full    = 1 << 40 // the greatest sum
)

// length, tick, value and total say which numbers are valid.
func length(n int64) bool { return n > 0 && n < 65 }
func tick(n int64) bool   { return n > -1 && n < 16777217 }
func value(v int64) bool  { return v > -1 && v < 4097 }
func total(s int64) bool  { return s > -1 && s < 1099511627777 }

// num returns a number as a big one.
func num(n int64) *big.Int { return big.NewInt(n) }

// largeOf returns an api.Wide as a big number.
func largeOf(a api.Wide) *big.Int {
	n := new(big.Int).SetUint64(a.Hi)
	return n.Lsh(n, 64).Or(n, new(big.Int).SetUint64(a.Lo))
}

// wideOf returns a big number that is an api.Wide as one.
func wideOf(n *big.Int) api.Wide {
	if n.Sign() < 0 || n.BitLen() > 128 {
		panic("no api.Wide: " + n.String())
	}
	return api.Wide{Hi: new(big.Int).Rsh(n, 64).Uint64(), Lo: new(big.Int).And(n, new(big.Int).SetUint64(math.MaxUint64)).Uint64()}
}

// twoTo returns 2^n.
func twoTo(n int) *big.Int { return new(big.Int).Exp(num(2), num(int64(n)), nil) }

// broken returns the conditions that a state breaks, by their order in the chapter.
func broken(x api.Halve) []int {
	totals, young := true, true
	for e, s := range x.Sums {
		totals = totals && total(s)
		young = young && (s == 0 || num(int64(e)).Cmp(num(x.Now)) <= 0)
	}
	var wrong []int
	for i, holds := range []bool{length(int64(len(x.Sums))), totals, tick(x.Now), young} {
		if !holds {
			wrong = append(wrong, i+1)
		}
	}
	return wrong
}

func valid(x api.Halve) bool { return len(broken(x)) == 0 }

// code returns the error that stands for an invalid state, if it is one.
func code(ok bool) api.Errno {
	if ok {
		return api.OK
	}
	return api.ErrState
}

// later is what Advance returns.
func later(x api.Halve, now int64) (api.Halve, api.Errno) {
	if !valid(x) {
		return api.Halve{}, api.ErrState
	}
	if now < x.Now || now > last {
		return api.Halve{}, api.ErrTime
	}
	moved := make([]int64, len(x.Sums))
	for e, s := range x.Sums {
		if to := int64(e) + now - x.Now; to < int64(len(x.Sums)) {
			moved[to] = s
		}
	}
	return state(now, moved...), api.OK
}

// included is what Add returns.
func included(x api.Halve, v int64) (api.Halve, api.Errno) {
	if !valid(x) {
		return api.Halve{}, api.ErrState
	}
	if !value(v) {
		return api.Halve{}, api.ErrRange
	}
	if !total(x.Sums[0] + v) {
		return api.Halve{}, api.ErrOver
	}
	return changed(x, 0, x.Sums[0]+v), api.OK
}

// decayed is what Ask returns.
func decayed(x api.Halve) (api.Fraction, api.Errno) {
	if !valid(x) {
		return api.Fraction{}, api.ErrState
	}
	sum := num(0)
	for e, s := range x.Sums {
		sum.Add(sum, new(big.Int).Mul(num(s), twoTo(len(x.Sums)-1-e)))
	}
	return api.Fraction{Num: wideOf(sum), Den: wideOf(twoTo(len(x.Sums) - 1))}, api.OK
}

// joined is what Merge returns.
func joined(a, b api.Halve) (api.Halve, api.Errno) {
	if !valid(a) || !valid(b) {
		return api.Halve{}, api.ErrState
	}
	if a.Now != b.Now || len(a.Sums) != len(b.Sums) {
		return api.Halve{}, api.ErrArg
	}
	both := state(a.Now)
	for e, s := range a.Sums {
		if !total(s + b.Sums[e]) {
			return api.Halve{}, api.ErrOver
		}
		both.Sums = append(both.Sums, s+b.Sums[e])
	}
	return both, api.OK
}

// weightOf returns the weight of an item of the age e among a sums.
func weightOf(e int64, a int) *big.Rat {
	if e >= int64(a) {
		return new(big.Rat)
	}
	weight := big.NewRat(1, 1)
	for range e {
		weight.Mul(weight, big.NewRat(1, 2))
	}
	return weight
}

// truth returns the decayed sum of items, by the definition of their weights.
func truth(items []api.Item, now int64, a int) *big.Rat {
	sum := new(big.Rat)
	for _, item := range items {
		weight := weightOf(now-item.T, a)
		sum.Add(sum, weight.Mul(weight, new(big.Rat).SetInt(num(item.V))))
	}
	return sum
}
