package spread

import (
	"math"
	"math/big"
	"math/bits"
	"slices"

	"windowpane/api"
)

// This file says what chapter 14, and chapter 13 for the range, require: word by word, with exact numbers.

const (
	least   = math.MinInt64
	most    = math.MaxInt64
	last    = 1 << 24 // the last tick
	longest = 1 << 20 // the longest window
	fullest = 1 << 16 // the greatest capacity
	finest  = 64      // the greatest K
	highest = 4096    // the greatest magnitude of a value
	final   = 1 << 40 // the greatest number of items
)

// inWindow, tick, window, fine, size and value say which numbers are valid.
func inWindow(t, now, w int64) bool { return t >= 0 && now-w < t && t <= now }
func tick(n int64) bool             { return n > -1 && n < 16777217 }
func window(n int64) bool           { return n > 0 && n < 1048577 }
func fine(n int) bool               { return n > 0 && n < 65 }
func size(n int) bool               { return n > 0 && n < 65537 }
func value(v int64) bool            { return v > -4097 && v < 4097 }

// deviation returns (N Q - S S) / N, if the mark has a spread.
func deviation(m api.Mark) (*big.Rat, bool) {
	if m.N < 1 || m.N > 65536 || m.Q < 0 {
		return nil, false
	}
	n, s, q := big.NewInt(m.N), big.NewInt(m.S), big.NewInt(m.Q)
	product := func(a, b *big.Int) *big.Int { return new(big.Int).Mul(a, b) }
	top := new(big.Int).Sub(product(n, q), product(s, s))
	if new(big.Int).Abs(s).Cmp(product(n, big.NewInt(4096))) > 0 || q.Cmp(product(n, big.NewInt(16777216))) > 0 || top.Sign() < 0 {
		return nil, false
	}
	return new(big.Rat).SetFrac(top, n), true
}

// near says when a mark b is close to a mark a.
func near(a, b api.Mark, k int) bool {
	if !fine(k) || !size(int(a.N)) || !size(int(b.N)) || 6*int64(k)*b.N < (6*int64(k)-1)*a.N {
		return false
	}
	v, ok := deviation(b)
	w, fits := deviation(a)
	if !ok || !fits {
		return false
	}
	times := func(n int, r *big.Rat) *big.Rat { return new(big.Rat).Mul(big.NewRat(int64(n), 1), r) }
	return times(6*k, v).Cmp(times(6*k-1, w)) >= 0
}

// limit says how many marks there are at most.
func limit(k, n int) int {
	if !fine(k) || !size(n) {
		return 0
	}
	return 4 + 36*k*bits.Len(uint(n)) + 288*k
}

// mark adds up items, the first of which has the number seq.
func mark(seq int64, items []api.Item) api.Mark {
	m := api.Mark{Seq: seq, T: items[0].T, N: int64(len(items)), Min: most, Max: least}
	for _, item := range items {
		m.S += item.V
		m.Q += item.V * item.V
		m.Min, m.Max = min(m.Min, item.V), max(m.Max, item.V)
	}
	return m
}

// coarse reports whether the numbers of a mark are so small that no sum or product of the conditions overflows; those of valid states are.
func coarse(m api.Mark) bool {
	within := func(v, limit int64) bool { return -limit <= v && v <= limit }
	return within(m.Seq, 1<<42) && within(m.T, 1<<26) && within(m.N, 1<<17) && within(m.S, 1<<30) && within(m.Q, 1<<42) && within(m.Min, 1<<14) && within(m.Max, 1<<14)
}

// numbered is condition 1.
func numbered(x api.Spread) bool {
	for i, m := range x.Marks {
		if m.Seq < 1 || m.Seq > x.Seq || i > 0 && m.Seq <= x.Marks[i-1].Seq || m.N+m.Seq != x.Seq+1 || m.N > int64(x.Cap) {
			return false
		}
	}
	return x.Seq != 0 || len(x.Marks) == 0
}

// ended is condition 2.
func ended(x api.Spread) bool {
	if len(x.Marks) == 0 {
		return true
	}
	m := x.Marks[len(x.Marks)-1]
	return m.Seq == x.Seq && m.N == 1 && m.Min == m.S && m.Max == m.S && m.Q == m.S*m.S
}

// timely is condition 3.
func timely(x api.Spread) bool {
	for i, m := range x.Marks {
		if m.T < 0 || m.T > x.Now || i > 0 && (m.T < x.Marks[i-1].T || m.T <= x.Now-x.W) {
			return false
		}
	}
	return len(x.Marks) != 1 || x.Marks[0].T > x.Now-x.W
}

// possible reports whether there may be n values between two with this sum and this sum of squares.
func possible(n, s, q, low, high int64) bool {
	return n*low <= s && s <= n*high && 0 <= q && q <= n*16777216 && s*s <= n*q
}

// summed is condition 4.
func summed(x api.Spread) bool {
	for i, m := range x.Marks {
		if !value(m.Min) || !value(m.Max) || m.Min > m.Max || !possible(m.N, m.S, m.Q, m.Min, m.Max) {
			return false
		}
		if i == 0 {
			continue
		}
		a := x.Marks[i-1]
		if m.Min < a.Min || m.Max > a.Max || !possible(a.N-m.N, a.S-m.S, a.Q-m.Q, a.Min, a.Max) {
			return false
		}
	}
	return true
}

// spaced is condition 5.
func spaced(x api.Spread) bool {
	for i := range x.Marks {
		if i+2 < len(x.Marks) && near(x.Marks[i], x.Marks[i+2], x.K) {
			return false
		}
	}
	return true
}

// broken returns the conditions that a state with parameters in range and coarse marks breaks.
func broken(x api.Spread) []int {
	var list []int
	for i, holds := range []func(api.Spread) bool{numbered, ended, timely, summed, spaced} {
		if !holds(x) {
			list = append(list, i+1)
		}
	}
	return list
}

// framed reports whether the numbers of a state beside the marks are in range.
func framed(x api.Spread) bool {
	return window(x.W) && fine(x.K) && size(x.Cap) && tick(x.Now) && x.Seq >= 0 && x.Seq <= final
}

// valid says which states are valid.
func valid(x api.Spread) bool {
	return framed(x) && !slices.ContainsFunc(x.Marks, func(m api.Mark) bool { return !coarse(m) }) && len(broken(x)) == 0
}

// code returns the error that stands for an invalid state, if it is one.
func code(ok bool) api.Errno {
	if ok {
		return api.OK
	}
	return api.ErrState
}

// thinned removes marks: it searches for the last close mark from the end on.
func thinned(list []api.Mark, k int) []api.Mark {
	for i := 0; i < len(list); i++ {
		for j := len(list) - 1; j > i; j-- {
			if near(list[i], list[j], k) {
				list = slices.Delete(list, i+1, j)
				break
			}
		}
	}
	return list
}

// included returns the state after one more value.
func included(x api.Spread, v int64) api.Spread {
	x = copied(x)
	x.Seq++
	for i, m := range x.Marks {
		x.Marks[i] = api.Mark{Seq: m.Seq, T: m.T, N: m.N + 1, S: m.S + v, Q: m.Q + v*v, Min: min(m.Min, v), Max: max(m.Max, v)}
	}
	x.Marks = append(x.Marks, api.Mark{Seq: x.Seq, T: x.Now, N: 1, S: v, Q: v * v, Min: v, Max: v})
	return holding(x, thinned(x.Marks, x.K)...)
}

// later returns the state at a later tick: the live marks stay, and the one before them.
func later(x api.Spread, now int64) api.Spread {
	x.Now = now
	i := slices.IndexFunc(x.Marks, func(m api.Mark) bool { return inWindow(m.T, now, x.W) })
	if i < 0 {
		return holding(x)
	}
	return holding(x, slices.Clone(x.Marks[max(0, i-1):])...)
}

// ends returns the least and the greatest possible spread of the live items of a valid state.
func ends(x api.Spread) (lo, hi *big.Rat) {
	if len(x.Marks) == 0 {
		return new(big.Rat), new(big.Rat)
	}
	hi, _ = deviation(x.Marks[0])
	if inWindow(x.Marks[0].T, x.Now, x.W) {
		return hi, hi
	}
	lo, _ = deviation(x.Marks[1])
	if x.Marks[1].Seq-x.Marks[0].Seq == 1 {
		return lo, lo
	}
	return lo, hi
}

// ratioOf returns a number as the program does.
func ratioOf(r *big.Rat) api.Ratio { return api.Ratio{Num: r.Num().Int64(), Den: r.Denom().Int64()} }

// answerOf returns the answer with these ends.
func answerOf(lo, hi *big.Rat) api.Bounds {
	return api.Bounds{Lo: ratioOf(lo), Est: ratioOf(lo), Hi: ratioOf(hi)}
}

// truth returns the sum of the squared deviations of values from their mean.
func truth(items []api.Item) *big.Rat {
	total := new(big.Rat)
	if len(items) == 0 {
		return total
	}
	n := int64(len(items))
	mean := big.NewRat(mark(1, items).S, n)
	for _, item := range items {
		away := new(big.Rat).Sub(big.NewRat(item.V, 1), mean)
		total.Add(total, away.Mul(away, away))
	}
	return total
}
