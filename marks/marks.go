// Package marks is not a layer: it has what the smooth histograms of layers 13 and 14 share, whatever the rule by which their marks go. See shared/doc/13-smooth.md.
package marks

import (
	"windowpane/api"
	"windowpane/clock"
)

// Rule reports whether a mark b is so near to an earlier mark a that the marks between them go. No later mark is near to a if b is not.
type Rule func(a, b api.Mark) bool

// New returns an empty histogram.
func New(agg int, w int64, k, cap int, now int64) (api.Smooth, api.Errno) {
	if !ValidSizes(agg, k, cap) || clock.First(now, w) < 0 {
		return api.Smooth{}, api.ErrArg
	}
	return api.Smooth{Agg: agg, W: w, K: k, Cap: cap, Now: now}, api.OK
}

// ValidSizes reports whether there is such an aggregate, and whether K and the capacity are in range.
func ValidSizes(agg, k, cap int) bool {
	return api.AggCount <= agg && agg <= api.AggRange && 1 <= k && k <= api.MaxK && 1 <= cap && cap <= api.MaxCap
}

// Valid reports whether the numbers of a histogram are in range, and its marks fulfil the conditions 1 to 4 and, with this rule, 5.
func Valid(x api.Smooth, near Rule) bool {
	if !ValidSizes(x.Agg, x.K, x.Cap) || clock.First(x.Now, x.W) < 0 || x.Seq < 0 || x.Seq > api.MaxTotal {
		return false
	}
	return validMarks(x) && validDistances(x.Marks, near)
}

// Advance moves the clock of a valid histogram.
func Advance(x api.Smooth, now int64) (api.Smooth, api.Errno) {
	now, err := clock.Advance(x.Now, now)
	if err != api.OK {
		return api.Smooth{}, err
	}
	x.Now = now
	left := x.Marks
	for len(left) > 1 && !isLive(x, left[1]) {
		left = left[1:]
	}
	if len(left) == 1 && !isLive(x, left[0]) {
		left = nil
	}
	x.Marks = append([]api.Mark(nil), left...)
	return x, api.OK
}

// Add adds an item to a valid histogram.
func Add(x api.Smooth, v int64, near Rule) (api.Smooth, api.Errno) {
	if !isValue(v, x.Agg) {
		return api.Smooth{}, api.ErrRange
	}
	if len(x.Marks) > 0 && x.Marks[0].N == int64(x.Cap) || x.Seq == api.MaxTotal {
		return api.Smooth{}, api.ErrFull
	}
	x.Seq++
	x.Marks = pruned(extended(x.Marks, x.Seq, x.Now, v), near)
	return x, api.OK
}

// Ends returns the marks of a valid histogram between whose aggregates that of the live items lies: twice the same mark if its items are just the live ones, and twice a mark without items if there are none.
func Ends(x api.Smooth) (inner, outer api.Mark) {
	if len(x.Marks) == 0 {
		return api.Mark{}, api.Mark{}
	}
	first := x.Marks[0]
	if isLive(x, first) {
		return first, first
	}
	// A single mark is live: there is a second one.
	second := x.Marks[1]
	if second.Seq == first.Seq+1 {
		return second, second
	}
	return second, first
}

func isLive(x api.Smooth, m api.Mark) bool { return clock.Live(x.Now, x.W, m.T) }

// isValue reports whether histograms with this aggregate have such a value: sums and sums of squares must not fall when an item comes.
func isValue(v int64, agg int) bool {
	if agg == api.AggSum || agg == api.AggSquares {
		return 0 <= v && v <= api.MaxValue
	}
	return -api.MaxValue <= v && v <= api.MaxValue
}

// extended returns the marks after one more item, none of them removed yet.
func extended(list []api.Mark, seq, now, v int64) []api.Mark {
	more := make([]api.Mark, 0, len(list)+1)
	for _, m := range list {
		m.N++
		m.S += v
		m.Q += v * v
		m.Min, m.Max = min(m.Min, v), max(m.Max, v)
		more = append(more, m)
	}
	return append(more, api.Mark{Seq: seq, T: now, N: 1, S: v, Q: v * v, Min: v, Max: v})
}

// pruned returns the marks that stay: behind each one, those before the last mark that is near to it go.
func pruned(list []api.Mark, near Rule) []api.Mark {
	kept := make([]api.Mark, 0, len(list))
	for i := 0; i < len(list); {
		kept = append(kept, list[i])
		next := i + 1
		for next+1 < len(list) && near(list[i], list[next+1]) {
			next++
		}
		i = next
	}
	return kept
}

// validMarks reports whether each mark is valid, alone and after the one before it, and the last one stands for the last item.
func validMarks(x api.Smooth) bool {
	for i, m := range x.Marks {
		if !validMark(x, m) || i > 0 && !validStep(x.Marks[i-1], m) {
			return false
		}
		// Only the first mark of several may have left the window.
		if (i > 0 || len(x.Marks) == 1) && !isLive(x, m) {
			return false
		}
	}
	return len(x.Marks) == 0 || isLast(x, x.Marks[len(x.Marks)-1])
}

// validMark reports whether a mark's numbers fit the histogram and each other.
func validMark(x api.Smooth, m api.Mark) bool {
	if m.Seq < 1 || m.Seq > x.Seq || m.N != x.Seq-m.Seq+1 || m.N > int64(x.Cap) {
		return false
	}
	if m.T < 0 || m.T > x.Now || !isValue(m.Min, x.Agg) || !isValue(m.Max, x.Agg) {
		return false
	}
	return m.Min <= m.Max && fit(m.N, m.S, m.Q, m.Min, m.Max)
}

// validStep reports whether a mark b can follow a mark a: whether there can be items between them.
func validStep(a, b api.Mark) bool {
	if a.Seq >= b.Seq || a.T > b.T || a.Min > b.Min || a.Max < b.Max {
		return false
	}
	return fit(a.N-b.N, a.S-b.S, a.Q-b.Q, a.Min, a.Max)
}

// fit reports whether n values from least to most can have the sum s and the sum of squares q, as far as is checked.
func fit(n, s, q, least, most int64) bool {
	if s < n*least || s > n*most || q < 0 || q > n*api.MaxValue*api.MaxValue {
		return false
	}
	// Only now is it sure that neither product overflows.
	return s*s <= n*q
}

// isLast reports whether a valid mark has the last item alone.
func isLast(x api.Smooth, m api.Mark) bool {
	return m.Seq == x.Seq && m.Min == m.S && m.Max == m.S && m.Q == m.S*m.S
}

// validDistances reports whether valid marks are so far from each other as the removal of marks leaves them.
func validDistances(list []api.Mark, near Rule) bool {
	for i := 2; i < len(list); i++ {
		if near(list[i-2], list[i]) {
			return false
		}
	}
	return true
}
