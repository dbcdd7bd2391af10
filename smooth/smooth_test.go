package smooth

import (
	"math"
	"math/bits"
	"math/rand"
	"slices"
	"testing"

	"windowpane/api"
)

const (
	least   = math.MinInt64
	most    = math.MaxInt64
	last    = 1 << 24 // the last tick
	longest = 1 << 20 // the longest window
	fullest = 1 << 16 // the greatest capacity
	finest  = 64      // the greatest K
	highest = 4096    // the greatest magnitude of a value
	all     = 1 << 40 // the greatest number of items
)

// its returns the items with these ticks and values in turn.
func its(numbers ...int64) []api.Item {
	var items []api.Item
	for i := 0; i < len(numbers); i += 2 {
		items = append(items, api.Item{T: numbers[i], V: numbers[i+1]})
	}
	return items
}

// mark adds up items, the first of which has the number seq.
func mark(seq int64, items []api.Item) api.Mark {
	m := api.Mark{Seq: seq, T: items[0].T, N: int64(len(items)), Min: most, Max: least}
	for _, item := range items {
		m.S += item.V
		m.Q += item.V * item.V
		m.Min, m.Max = min(m.Min, item.V), max(m.Max, item.V)
	}
	return m
}

// empty returns the histogram without marks after seq items.
func empty(agg int, w int64, k, size int, now, seq int64) api.Smooth {
	return api.Smooth{Agg: agg, W: w, K: k, Cap: size, Now: now, Seq: seq}
}

// holding returns the state with other marks.
func holding(x api.Smooth, list ...api.Mark) api.Smooth {
	x.Marks = list
	return x
}

// copied returns the state with a list of its own.
func copied(x api.Smooth) api.Smooth { return holding(x, slices.Clone(x.Marks)...) }

// marked returns the state with marks at these places of a list of items, the last of which has the number Seq.
func marked(x api.Smooth, items []api.Item, places ...int) api.Smooth {
	x.Marks = nil
	for _, i := range places {
		x.Marks = append(x.Marks, mark(x.Seq-int64(len(items))+int64(i)+1, items[i:]))
	}
	return x
}

// changed returns the state with the mark i changed.
func changed(x api.Smooth, i int, change func(m *api.Mark)) api.Smooth {
	x = copied(x)
	change(&x.Marks[i])
	return x
}

// same reports whether two states are equal; a nil list and an empty one are equivalent.
func same(a, b api.Smooth) bool {
	return a.Agg == b.Agg && a.W == b.W && a.K == b.K && a.Cap == b.Cap && a.Now == b.Now && a.Seq == b.Seq && slices.Equal(a.Marks, b.Marks)
}

// inWindow, tick, window, fine, size, kind and value say which numbers are valid.
func inWindow(t, now, w int64) bool { return t >= 0 && now-w < t && t <= now }
func tick(n int64) bool             { return n > -1 && n < 16777217 }
func window(n int64) bool           { return n > 0 && n < 1048577 }
func fine(n int) bool               { return n > 0 && n < 65 }
func size(n int) bool               { return n > 0 && n < 65537 }
func kind(n int) bool               { return n == 1 || n == 2 || n == 3 || n == 4 }
func value(v int64, agg int) bool {
	return v < 4097 && (v > -1 || v > -4097 && (agg == 1 || agg == 4))
}

// aggregate returns the number that a histogram with this aggregate is about.
func aggregate(m api.Mark, agg int) int64 {
	return map[int]int64{1: m.N, 2: m.S, 3: m.Q, 4: m.Max - m.Min}[agg]
}

// near says when the marks between two go.
func near(x api.Smooth, a, b api.Mark) bool {
	k := int64(x.K)
	return k*aggregate(b, x.Agg)+aggregate(b, x.Agg) >= k*aggregate(a, x.Agg)
}

// coarse reports whether the numbers of a mark are so small that no sum or product of the conditions overflows; those of valid states are.
func coarse(m api.Mark) bool {
	within := func(v, limit int64) bool { return -limit <= v && v <= limit }
	return within(m.Seq, 1<<42) && within(m.T, 1<<26) && within(m.N, 1<<17) && within(m.S, 1<<30) && within(m.Q, 1<<42) && within(m.Min, 1<<14) && within(m.Max, 1<<14)
}

// numbered is condition 1.
func numbered(x api.Smooth) bool {
	for i, m := range x.Marks {
		if m.Seq < 1 || m.Seq > x.Seq || i > 0 && m.Seq <= x.Marks[i-1].Seq || m.N+m.Seq != x.Seq+1 || m.N > int64(x.Cap) {
			return false
		}
	}
	return x.Seq != 0 || len(x.Marks) == 0
}

// ended is condition 2.
func ended(x api.Smooth) bool {
	if len(x.Marks) == 0 {
		return true
	}
	m := x.Marks[len(x.Marks)-1]
	return m.Seq == x.Seq && m.N == 1 && m.Min == m.S && m.Max == m.S && m.Q == m.S*m.S
}

// timed is condition 3.
func timed(x api.Smooth) bool {
	for i, m := range x.Marks {
		if m.T < 0 || m.T > x.Now || i > 0 && m.T < x.Marks[i-1].T || i > 0 && m.T <= x.Now-x.W {
			return false
		}
	}
	return len(x.Marks) != 1 || x.Marks[0].T > x.Now-x.W
}

// possible reports whether there may be n values between two with this sum and this sum of squares.
func possible(n, s, q, low, high int64) bool {
	return n*low <= s && s <= n*high && 0 <= q && q <= n*16777216 && s*s <= n*q
}

// summed is condition 4.
func summed(x api.Smooth) bool {
	for i, m := range x.Marks {
		if !value(m.Min, x.Agg) || !value(m.Max, x.Agg) || m.Min > m.Max || !possible(m.N, m.S, m.Q, m.Min, m.Max) {
			return false
		}
		if i == 0 {
			continue
		}
		a := x.Marks[i-1]
		if m.Min < a.Min || m.Max > a.Max || !possible(a.N-m.N, a.S-m.S, a.Q-m.Q, a.Min, a.Max) {
			return false
		}
	}
	return true
}

// spaced is condition 5.
func spaced(x api.Smooth) bool {
	for i := range x.Marks {
		if i+2 < len(x.Marks) && near(x, x.Marks[i], x.Marks[i+2]) {
			return false
		}
	}
	return true
}

// joined is condition 6.
func joined(x api.Smooth) bool {
	for i := range x.Marks {
		if i+1 < len(x.Marks) && x.Marks[i].Seq+1 < x.Marks[i+1].Seq && !near(x, x.Marks[i], x.Marks[i+1]) {
			return false
		}
	}
	return true
}

// broken returns the conditions that a state with parameters in range and coarse marks breaks.
func broken(x api.Smooth) []int {
	var list []int
	for i, holds := range []func(api.Smooth) bool{numbered, ended, timed, summed, spaced, joined} {
		if !holds(x) {
			list = append(list, i+1)
		}
	}
	return list
}

// framed reports whether the numbers of a state beside the marks are in range.
func framed(x api.Smooth) bool {
	return kind(x.Agg) && window(x.W) && fine(x.K) && size(x.Cap) && tick(x.Now) && x.Seq >= 0 && x.Seq <= all
}

// valid says which states are valid, condition by condition.
func valid(x api.Smooth) bool {
	for _, m := range x.Marks {
		if !coarse(m) {
			return false
		}
	}
	return framed(x) && len(broken(x)) == 0
}

// code returns the error that stands for an invalid state, if it is one.
func code(ok bool) api.Errno {
	if ok {
		return api.OK
	}
	return api.ErrState
}

// thinned removes marks, word by word: it searches for the last near mark from the end on.
func thinned(x api.Smooth) []api.Mark {
	list := slices.Clone(x.Marks)
	for i := 0; i < len(list); i++ {
		for j := len(list) - 1; j > i; j-- {
			if near(x, list[i], list[j]) {
				list = slices.Delete(list, i+1, j)
				break
			}
		}
	}
	return list
}

// included returns the state after one more value.
func included(x api.Smooth, v int64) api.Smooth {
	x = copied(x)
	x.Seq++
	for i, m := range x.Marks {
		x.Marks[i] = api.Mark{Seq: m.Seq, T: m.T, N: m.N + 1, S: m.S + v, Q: m.Q + v*v, Min: min(m.Min, v), Max: max(m.Max, v)}
	}
	x.Marks = append(x.Marks, api.Mark{Seq: x.Seq, T: x.Now, N: 1, S: v, Q: v * v, Min: v, Max: v})
	return holding(x, thinned(x)...)
}

// leftAt returns the marks that stay at a tick: the live ones and the one before them.
func leftAt(list []api.Mark, now, w int64) []api.Mark {
	i := slices.IndexFunc(list, func(m api.Mark) bool { return inWindow(m.T, now, w) })
	if i < 0 {
		return nil
	}
	return slices.Clone(list[max(0, i-1):])
}

func whole(lo, est, hi int64) api.Bounds {
	return api.Bounds{Lo: api.Ratio{Num: lo, Den: 1}, Est: api.Ratio{Num: est, Den: 1}, Hi: api.Ratio{Num: hi, Den: 1}}
}

// between returns the ends and the estimate of the answer to a valid state.
func between(x api.Smooth) (lo, est, hi int64) {
	if len(x.Marks) == 0 {
		return 0, 0, 0
	}
	hi = aggregate(x.Marks[0], x.Agg)
	if inWindow(x.Marks[0].T, x.Now, x.W) {
		return hi, hi, hi
	}
	lo = aggregate(x.Marks[1], x.Agg)
	if x.Marks[1].Seq-x.Marks[0].Seq == 1 {
		return lo, lo, lo
	}
	return lo, (lo + hi) / 2, hi
}

// edges returns the numbers around all limits.
func edges() []int64 {
	var list []int64
	for d := int64(-2); d <= 2; d++ {
		list = append(list, d, finest+d, highest+d, -highest+d, fullest+d, longest+d, last-longest+d, last+d, 1<<32+d, all+d, highest*fullest+d, -highest*fullest+d, math.MaxInt32+d, math.MinInt32+d, 1<<62+d)
	}
	for d := range int64(3) {
		list = append(list, least+d, most-d, least+longest+d, most-longest-d)
	}
	return list
}

// checkAdvance compares Advance with what the chapter says.
func checkAdvance(t *testing.T, x api.Smooth, now int64) {
	t.Helper()
	want, why := holding(x), code(valid(x))
	if why == api.OK && (now < x.Now || now > last) {
		why = api.ErrTime
	}
	if why == api.OK {
		want.Now, want.Marks = now, leftAt(x.Marks, now, x.W)
	} else {
		want = api.Smooth{}
	}
	if got, err := Advance(x, now); !same(got, want) || err != why {
		t.Fatalf("Advance(%v, %d) = %v, %d, not %v, %d", x, now, got, err, want, why)
	}
}

// checkAdd compares Add with what the chapter says.
func checkAdd(t *testing.T, x api.Smooth, v int64) {
	t.Helper()
	want, why := api.Smooth{}, code(valid(x))
	if why == api.OK && !value(v, x.Agg) {
		why = api.ErrRange
	}
	if why == api.OK && (x.Seq > all-1 || len(x.Marks) > 0 && x.Marks[0].N > int64(x.Cap)-1) {
		why = api.ErrFull
	}
	if why == api.OK {
		want = included(x, v)
	}
	if got, err := Add(x, v); !same(got, want) || err != why {
		t.Fatalf("Add(%v, %d) = %v, %d, not %v, %d", x, v, got, err, want, why)
	}
}

// checkAsk compares Ask with what the chapter says.
func checkAsk(t *testing.T, x api.Smooth) {
	t.Helper()
	want, why := api.Bounds{}, code(valid(x))
	if why == api.OK {
		want = whole(between(x))
	}
	if got, err := Ask(x); got != want || err != why {
		t.Fatalf("Ask(%v) = %v, %d, not %v, %d", x, got, err, want, why)
	}
}

// step checks the result of a call.
func step(t *testing.T, name string, got api.Smooth, err, why api.Errno, want api.Smooth) {
	t.Helper()
	if err != why || !same(got, want) {
		t.Fatalf("%s = %v, %d, not %v, %d", name, got, err, want, why)
	}
}

// asked checks an answer.
func asked(t *testing.T, name string, x api.Smooth, want api.Bounds) {
	t.Helper()
	if got, err := Ask(x); err != api.OK || got != want {
		t.Fatalf("%s: Ask(%v) = %v, %d, not %v", name, x, got, err, want)
	}
}

// added returns the state after these values.
func added(t *testing.T, x api.Smooth, values ...int64) api.Smooth {
	t.Helper()
	for _, v := range values {
		y, err := Add(x, v)
		if err != api.OK {
			t.Fatalf("Add(%v, %d) = %d", x, v, err)
		}
		x = y
	}
	return x
}

// moved returns the state at a later tick.
func moved(t *testing.T, x api.Smooth, now int64) api.Smooth {
	t.Helper()
	y, err := Advance(x, now)
	if err != api.OK {
		t.Fatalf("Advance(%v, %d) = %d", x, now, err)
	}
	return y
}

// numbers returns the aggregates of the marks.
func numbers(x api.Smooth) []int64 {
	var list []int64
	for _, m := range x.Marks {
		list = append(list, aggregate(m, x.Agg))
	}
	return list
}

func TestOf(t *testing.T) {
	for _, c := range []struct {
		m                           api.Mark
		number, sum, squares, width int64
	}{
		{api.Mark{}, 0, 0, 0, 0}, {api.Mark{Seq: 9, T: 8, N: 3, S: 5, Q: 9, Min: -4, Max: 6}, 3, 5, 9, 10}, {mark(4, its(1, 0)), 1, 0, 0, 0}, {mark(4, its(1, -highest)), 1, -4096, 16777216, 0}, {mark(4, its(1, highest)), 1, 4096, 16777216, 0}, {mark(4, its(1, highest, 2, -highest)), 2, 0, 33554432, 8192}, {mark(4, its(1, 7, 2, 7, 3, 7)), 3, 21, 147, 0},
		// Marks that no histogram has.
		{api.Mark{N: most, S: least, Q: most, Min: 6, Max: -4}, most, least, most, -10}, {api.Mark{N: -1, S: most, Q: least, Min: -1, Max: most - 1}, -1, most, least, most}, {api.Mark{Min: 1, Max: most}, 0, 0, 0, most - 1}, {api.Mark{Min: most, Max: -1}, 0, 0, 0, least}, {api.Mark{Min: most, Max: most}, 0, 0, 0, 0}, {api.Mark{Min: least, Max: least}, 0, 0, 0, 0}, {api.Mark{Min: least, Max: -1}, 0, 0, 0, most},
		// The range is not an int64.
		{api.Mark{N: 4, S: 5, Q: 6, Min: least, Max: 1}, 4, 5, 6, 0}, {api.Mark{Min: -1, Max: most}, 0, 0, 0, 0}, {api.Mark{Min: least, Max: 0}, 0, 0, 0, 0}, {api.Mark{Min: least, Max: most}, 0, 0, 0, 0}, {api.Mark{Min: most, Max: least}, 0, 0, 0, 0}, {api.Mark{Min: most, Max: -2}, 0, 0, 0, 0}, {api.Mark{Min: 1, Max: least}, 0, 0, 0, 0},
	} {
		for agg, want := range map[int]int64{api.AggCount: c.number, api.AggSum: c.sum, api.AggSquares: c.squares, api.AggRange: c.width, 0: 0, 5: 0, 6: 0, -1: 0, -4: 0, 1<<32 + 1: 0, least: 0, most: 0} {
			if got := Of(c.m, agg); got != want {
				t.Errorf("Of(%v, %d) = %d, not %d", c.m, agg, got, want)
			}
		}
	}
}

func TestMost(t *testing.T) {
	for _, c := range []struct{ agg, k, size, want int }{
		// cap, cap 2^12, cap 2^24 and 2^13 have as many digits as here.
		{api.AggCount, 1, 1, 4}, {api.AggCount, 1, 2, 6}, {api.AggCount, 1, 3, 6}, {api.AggCount, 1, 4, 8}, {api.AggCount, 1, 100, 16}, {api.AggCount, 3, 100, 44}, {api.AggCount, finest, fullest - 1, 128*16 + 2}, {api.AggCount, finest, fullest, 128*17 + 2},
		{api.AggSum, 1, 1, 28}, {api.AggSum, 1, 2, 30}, {api.AggSum, 1, 100, 40}, {api.AggSum, 2, 3, 58}, {api.AggSum, finest, fullest - 1, 128*28 + 2}, {api.AggSum, finest, fullest, 128*29 + 2},
		{api.AggSquares, 1, 1, 52}, {api.AggSquares, 1, 2, 54}, {api.AggSquares, 1, 100, 64}, {api.AggSquares, 2, 3, 106}, {api.AggSquares, finest, fullest - 1, 128*40 + 2}, {api.AggSquares, finest, fullest, 128*41 + 2},
		{api.AggRange, 1, 1, 30}, {api.AggRange, 2, 100, 58}, {api.AggRange, 1, fullest, 30}, {api.AggRange, finest, 1, 128*14 + 2}, {api.AggRange, finest, fullest, 128*14 + 2},
		{0, 1, 1, 0}, {5, 1, 1, 0}, {-1, 1, 1, 0}, {least, 1, 1, 0}, {most, 1, 1, 0}, {1<<32 + 1, 1, 1, 0},
	} {
		if got := Most(c.agg, c.k, c.size); got != c.want {
			t.Errorf("Most(%d, %d, %d) = %d, not %d", c.agg, c.k, c.size, got, c.want)
		}
	}
	for agg := -1; agg <= 6; agg++ {
		for _, n := range edges() {
			for _, c := range [][2]int{{int(n), 9}, {3, int(n)}, {int(n), 0}, {0, int(n)}, {finest, int(n)}, {int(n), fullest}} {
				if got, want := Most(agg, c[0], c[1]), limit(agg, c[0], c[1]); got != want {
					t.Errorf("Most(%d, %d, %d) = %d, not %d", agg, c[0], c[1], got, want)
				}
			}
		}
	}
}

// limit says how many marks there are at most.
func limit(agg, k, n int) int {
	if !kind(agg) || !fine(k) || !size(n) {
		return 0
	}
	f := map[int]int{1: n, 2: n * 4096, 3: n * 16777216, 4: 8192}[agg]
	return 2 + 2*k*bits.Len(uint(f))
}

// checkNew compares New, and Validate of the empty histogram, with what the chapter says.
func checkNew(t *testing.T, agg int, w int64, k, cap int, now int64) api.Errno {
	t.Helper()
	x := api.Smooth{Agg: agg, W: w, K: k, Cap: cap, Now: now}
	want, why := x, api.OK
	if !kind(agg) || !window(w) || !fine(k) || !size(cap) || !tick(now) {
		want, why = api.Smooth{}, api.ErrArg
	}
	if got, err := New(agg, w, k, cap, now); !same(got, want) || err != why {
		t.Errorf("New(%d, %d, %d, %d, %d) = %v, %d", agg, w, k, cap, now, got, err)
	}
	if err := Validate(x); err != code(why == api.OK) {
		t.Errorf("Validate(%v) = %d", x, err)
	}
	return why
}

func TestNew(t *testing.T) {
	kinds := []int{least, -1, 0, 1, 2, 3, 4, 5, 1<<32 + 1, most}
	wide := []int64{least, -1, 0, 1, 2, 5, longest - 1, longest, longest + 1, 1<<32 + 1, most}
	ticks := []int64{least, -last, -1, 0, 1, 7, last - 1, last, last + 1, 1 << 32, most}
	fines := []int{least, -1, 0, 1, 2, finest - 1, finest, finest + 1, 2 * finest, 1<<32 + 1, most}
	sizes := []int{least, -1, 0, 1, 2, fullest - 1, fullest, fullest + 1, 1<<32 + 1, most}
	seen := map[api.Errno]int{}
	for _, agg := range kinds {
		for _, w := range wide {
			for _, k := range fines {
				for _, n := range sizes {
					for _, now := range ticks {
						seen[checkNew(t, agg, w, k, n, now)]++
					}
				}
			}
		}
	}
	if seen[api.OK] < 1000 || seen[api.ErrArg] < 100000 {
		t.Errorf("the results are too much alike: %v", seen)
	}
}

// TestNewAtTheLimits writes the limits out, one by one and all together.
func TestNewAtTheLimits(t *testing.T) {
	for i, c := range []struct {
		agg    int
		w      int64
		k, cap int
		now    int64
		why    api.Errno
	}{
		{1, 1, 1, 1, 0, api.OK}, {4, 1048576, 64, 65536, 16777216, api.OK}, {2, 1048576, 1, 1, 0, api.OK}, {3, 1, 64, 1, 0, api.OK}, {4, 1, 1, 65536, 0, api.OK}, {1, 1, 1, 1, 16777216, api.OK}, {api.AggCount, 10, 1, 100, 0, api.OK}, {api.AggSum, 10, 1, 100, 0, api.OK}, {api.AggSquares, 10, 1, 100, 0, api.OK}, {api.AggRange, 10, 1, 100, 0, api.OK},
		{0, 1, 1, 1, 0, api.ErrArg}, {5, 1, 1, 1, 0, api.ErrArg}, {1, 0, 1, 1, 0, api.ErrArg}, {2, 1048577, 1, 1, 0, api.ErrArg}, {3, 1, 0, 1, 0, api.ErrArg}, {4, 1, 65, 1, 0, api.ErrArg}, {1, 1, 1, 0, 0, api.ErrArg}, {2, 1, 1, 65537, 0, api.ErrArg}, {3, 1, 1, 1, -1, api.ErrArg}, {4, 1, 1, 1, 16777217, api.ErrArg},
	} {
		x, err := New(c.agg, c.w, c.k, c.cap, c.now)
		want := empty(c.agg, c.w, c.k, c.cap, c.now, 0)
		if c.why != api.OK {
			want = api.Smooth{}
		}
		if err != c.why || !same(x, want) {
			t.Errorf("case %d: New = %v, %d", i, x, err)
		}
		if err == api.OK {
			asked(t, "the empty histogram", x, whole(0, 0, 0))
		}
	}
}

// TestNewOfOneWrongNumber moves one argument over its limits.
func TestNewOfOneWrongNumber(t *testing.T) {
	for _, n := range edges() {
		for agg := 1; agg <= 4; agg++ {
			checkNew(t, int(n), 3, 2, 9, 5)
			checkNew(t, agg, n, 2, 9, 5)
			checkNew(t, agg, 3, int(n), 9, 5)
			checkNew(t, agg, 3, 2, int(n), 5)
			checkNew(t, agg, 3, 2, 9, n)
		}
	}
}

// base returns the histogram without marks in which the others below differ: a window of the ticks 3 to 5.
func base(agg int, seq int64) api.Smooth { return empty(agg, 3, 1, 9, 5, seq) }

// alike returns the mark of the last n of seq items, all with the same value and the tick at.
func alike(seq, n, at, v int64) api.Mark {
	return api.Mark{Seq: seq - n + 1, T: at, N: n, S: n * v, Q: n * v * v, Min: v, Max: v}
}

// filled returns the histogram of the most items with the greatest values, for K = 1.
func filled(agg int) api.Smooth {
	x := empty(agg, longest, 1, fullest, last, all-1)
	if agg == api.AggRange {
		m := func(n int64) api.Mark {
			return api.Mark{Seq: all - n, T: last, N: n, S: 0, Q: n * highest * highest, Min: -highest, Max: highest}
		}
		return holding(x, m(fullest), m(2), alike(all-1, 1, last, highest))
	}
	for n := int64(fullest); n > 0; n /= 2 {
		x.Marks = append(x.Marks, alike(x.Seq, n, last, highest))
	}
	return x
}

// shape is a list of values, and the places at which the marks are.
type shape struct {
	agg, k int
	values []int64
	places []int
}

// timed returns the items of a shape: the first one has the tick first, the last one the tick 5, and those between the tick 3.
func (s shape) timed(first int64) []api.Item {
	items := its(first, s.values[0])
	for i, v := range s.values[1:] {
		items = append(items, api.Item{T: 3 + 2*int64((i+2)/len(s.values)), V: v})
	}
	return items
}

// state returns the histogram of a shape, with this number of the last item and room for so many more.
func (s shape) state(first, seq int64, room int) api.Smooth {
	x := base(s.agg, seq)
	x.K, x.Cap = s.k, len(s.values)+room
	return marked(x, s.timed(first), s.places...)
}

// vals writes a list of values.
func vals(values ...int64) []int64 { return values }

// at writes a list of places.
func at(places ...int) []int { return places }

// validShapes returns shapes whose marks are as far from each other, and as near, as they may be.
func validShapes() []shape {
	list := []shape{
		{api.AggCount, 1, vals(0), at(0)}, {api.AggCount, finest, vals(-highest), at(0)}, {api.AggCount, 1, vals(highest, -highest), at(0, 1)}, {api.AggCount, 1, vals(5, -5, 5), at(0, 1, 2)}, {api.AggCount, 1, vals(5, -5, 5, 9), at(0, 2, 3)}, {api.AggCount, 1, vals(5, -5, 5, 9, 0), at(0, 2, 3, 4)}, {api.AggCount, 1, vals(7, 7, 7, 7, 7, 7), at(0, 3, 4, 5)},
		{api.AggCount, 2, vals(1, 2, 3), at(0, 1, 2)}, {api.AggCount, 2, vals(1, 2, 3, 4), at(0, 1, 2, 3)}, {api.AggCount, 2, vals(1, 2, 3, 4, 5), at(0, 1, 2, 3, 4)}, {api.AggCount, 2, vals(1, 2, 3, 4, 5, 6), at(0, 2, 3, 4, 5)}, {api.AggCount, finest, vals(-1, 2, -3, 4), at(0, 1, 2, 3)},
		{api.AggSum, 1, vals(0), at(0)}, {api.AggSum, finest, vals(1), at(0)}, {api.AggSum, 1, vals(highest), at(0)}, {api.AggSum, 1, vals(highest, 0), at(0, 1)}, {api.AggSum, 1, vals(0, highest), at(0, 1)}, {api.AggSum, 1, vals(8, 4, 4), at(0, 1, 2)}, {api.AggSum, 1, vals(4, 4, 8), at(0, 2)}, {api.AggSum, 1, vals(0, 0), at(0, 1)}, {api.AggSum, 1, vals(0, 0, 0), at(0, 2)}, {api.AggSum, 1, vals(2, 2, 4), at(0, 2)}, {api.AggSum, 1, vals(4, 1, 3), at(0, 1, 2)}, {api.AggSum, 1, vals(8, 4, 4, 0), at(0, 1, 2, 3)}, {api.AggSum, 1, vals(8, 0, 4, 4, 0, 0), at(0, 2, 3, 4, 5)}, {api.AggSum, finest, vals(1, 1, 63), at(0, 1, 2)}, {api.AggSum, finest, vals(1, 0, 64), at(0, 2)},
		{api.AggSquares, 1, vals(0), at(0)}, {api.AggSquares, finest, vals(highest), at(0)}, {api.AggSquares, 1, vals(highest, 0), at(0, 1)}, {api.AggSquares, 1, vals(0, highest), at(0, 1)}, {api.AggSquares, 1, vals(0, 0), at(0, 1)}, {api.AggSquares, 2, vals(1, 2, 3), at(0, 1, 2)}, {api.AggSquares, 2, vals(1, 1, 3), at(0, 2)}, {api.AggSquares, 2, vals(3, 3, 0), at(0, 1, 2)}, {api.AggSquares, 1, vals(1, 1, 1, 1), at(0, 2, 3)}, {api.AggSquares, finest, vals(highest, highest, highest), at(0, 1, 2)},
		{api.AggRange, 1, vals(0), at(0)}, {api.AggRange, finest, vals(-highest), at(0)}, {api.AggRange, 1, vals(-highest, highest), at(0, 1)}, {api.AggRange, 1, vals(highest, -highest, highest), at(0, 1, 2)}, {api.AggRange, 1, vals(-highest, highest, -highest, highest), at(0, 2, 3)}, {api.AggRange, 1, vals(5, -5, 0, 3), at(0, 1, 2, 3)}, {api.AggRange, 1, vals(7, 7), at(0, 1)}, {api.AggRange, 1, vals(7, 7, 7, 7), at(0, 3)}, {api.AggRange, 1, vals(5, 1, -5, 0), at(0, 2, 3)}, {api.AggRange, 1, vals(9, 0, 5, 1), at(0, 1, 2, 3)}, {api.AggRange, finest, vals(64, 0, 65, 1, 65), at(0, 3, 4)},
	}
	return list
}

// farShapes returns shapes that break condition 5 alone, and nearShapes those that break condition 6 alone.
func farShapes() []shape {
	return []shape{
		{api.AggCount, 1, vals(5, -5, 5, 9), at(0, 1, 2, 3)}, {api.AggCount, 2, vals(1, 2, 3, 4, 5, 6), at(0, 1, 2, 3, 4, 5)}, {api.AggCount, 1, vals(7, 7, 7, 7, 7), at(0, 1, 2, 3, 4)}, {api.AggSum, 1, vals(2, 2, 4), at(0, 1, 2)}, {api.AggSum, 1, vals(0, 0, 0), at(0, 1, 2)}, {api.AggSum, 1, vals(9, 0, 0, 0), at(0, 1, 2, 3)}, {api.AggSum, finest, vals(1, 0, 64), at(0, 1, 2)}, {api.AggSquares, 1, vals(1, 1, 1, 1), at(0, 1, 2, 3)}, {api.AggSquares, 2, vals(1, 1, 2), at(0, 1, 2)}, {api.AggRange, 1, vals(7, 7, 7), at(0, 1, 2)}, {api.AggRange, 1, vals(5, 1, -5, 0), at(0, 1, 2, 3)}, {api.AggRange, 1, vals(highest, -highest, highest, -highest), at(0, 1, 2, 3)},
	}
}

func nearShapes() []shape {
	return []shape{
		{api.AggCount, 1, vals(5, -5, 5), at(0, 2)}, {api.AggCount, 1, vals(5, -5, 5, 9), at(0, 3)}, {api.AggCount, 1, vals(7, 7, 7, 7, 7), at(0, 3, 4)}, {api.AggCount, finest, vals(7, 7, 7), at(0, 2)}, {api.AggSum, 1, vals(5, 0, 4), at(0, 2)}, {api.AggSum, finest, vals(2, 0, 127), at(0, 2)}, {api.AggSum, 1, vals(9, 0, 0), at(0, 2)}, {api.AggSquares, 2, vals(2, 1, 3), at(0, 2)}, {api.AggSquares, 1, vals(1, 0, 0), at(0, 2)}, {api.AggRange, 1, vals(9, 0, 0), at(0, 2)}, {api.AggRange, 1, vals(9, 4, 0, 4), at(0, 2, 3)}, {api.AggRange, finest, vals(-highest, highest, 0), at(0, 2)},
	}
}

// shaped returns histograms of a shape: all marks are live; the first one of several is just not, and long not; Seq and Cap vary.
func shaped(s shape) []api.Smooth {
	var list []api.Smooth
	for _, first := range []int64{3, 2, 0} {
		if len(s.places) == 1 && first < 3 {
			continue
		}
		for _, seq := range []int64{int64(len(s.values)), 99, all - 1, all} {
			list = append(list, s.state(first, seq, 0), s.state(first, seq, 1), s.state(first, seq, fullest-len(s.values)))
		}
	}
	return list
}

// validStates returns states at the limits.
func validStates() []api.Smooth {
	var list []api.Smooth
	for agg := 1; agg <= 4; agg++ {
		// The empty histogram, with the least and the greatest numbers.
		list = append(list, base(agg, 0), base(agg, 1), base(agg, all-1), base(agg, all), api.Smooth{Agg: agg, W: 1, K: 1, Cap: 1, Marks: []api.Mark{}}, empty(agg, 1, 1, 1, 0, 0), empty(agg, longest, finest, fullest, last, all), empty(agg, longest, 1, 1, 0, 0), empty(agg, 1, finest, 1, 0, 0), empty(agg, 1, 1, fullest, 0, 0), empty(agg, 1, 1, 1, last, 0))
		// Windows of one tick and the longest ones, at the first and the last tick.
		list = append(list, marked(empty(agg, 1, 1, 1, 0, 1), its(0, 3), 0), marked(empty(agg, 1, 1, 2, last, 2), its(0, 3, last, 4), 0, 1), marked(empty(agg, longest, finest, fullest, last, all), its(last-longest+1, 3), 0), marked(empty(agg, longest, 1, 2, last, 2), its(last-longest, 3, last-longest+1, 4), 0, 1), marked(empty(agg, longest, 1, 1, longest-1, 1), its(0, 3), 0), marked(empty(agg, longest, 1, 2, longest, 2), its(0, 3, 1, 3), 0, 1), filled(agg))
	}
	for _, s := range validShapes() {
		list = append(list, shaped(s)...)
	}
	return list
}

// pair returns a histogram of two items with a mark of each: the first mark has any sums, and the last item has the value v.
func pair(agg int, first api.Mark, v int64) api.Smooth {
	first.Seq, first.T, first.N = 1, 4, 2
	return holding(base(agg, 2), first, api.Mark{Seq: 2, T: 5, N: 1, S: v, Q: v * v, Min: v, Max: v})
}

// sums returns a mark with these numbers.
func sums(s, q, low, high int64) api.Mark { return api.Mark{S: s, Q: q, Min: low, Max: high} }

// oneBroken returns, for each condition, states that break it alone.
func oneBroken() map[int][]api.Smooth {
	list := map[int][]api.Smooth{}
	for _, s := range farShapes() {
		list[5] = append(list[5], shaped(s)...)
	}
	for _, s := range nearShapes() {
		list[6] = append(list[6], shaped(s)...)
	}
	for agg := 1; agg <= 4; agg++ {
		two := marked(base(agg, 2), its(4, 0, 5, 5), 0, 1)
		list[1] = append(list[1], numberBroken(agg, two)...)
		list[2] = append(list[2], endBroken(agg, two)...)
		list[3] = append(list[3], timeBroken(agg)...)
		list[4] = append(list[4], sumBroken(agg)...)
	}
	return list
}

// numberBroken returns states that break condition 1 alone.
func numberBroken(agg int, two api.Smooth) []api.Smooth {
	small := two
	small.Cap = 1
	twice := base(agg, 2)
	return []api.Smooth{
		// Seq is less than 1, with and without items.
		marked(base(agg, 1), its(4, 3, 5, 4), 0, 1), marked(base(agg, 0), its(5, 3), 0), marked(base(agg, 0), its(4, 3, 5, 4), 0, 1),
		// N is greater than Cap.
		small, marked(empty(agg, 3, 2, 2, 5, 9), its(3, 9, 4, 5, 5, 1), 0, 1, 2), marked(empty(agg, 3, 2, 2, 5, all), its(2, 9, 4, 5, 5, 1), 0, 1, 2),
		// N is not the number of items from Seq on.
		changed(two, 0, func(m *api.Mark) { m.N = 1 }), changed(two, 0, func(m *api.Mark) { m.N = 3 }), changed(two, 0, func(m *api.Mark) { m.N = 9 }), changed(two, 0, func(m *api.Mark) { m.N = fullest }),
		// Seq does not ascend strictly.
		holding(twice, alike(2, 1, 5, 3), alike(2, 1, 5, 3)),
	}
}

// endBroken returns states that break condition 2 alone.
func endBroken(agg int, two api.Smooth) []api.Smooth {
	one := marked(base(agg, 7), its(5, 3), 0)
	return []api.Smooth{
		// The last mark is not that of the last item.
		holding(two, two.Marks[0]), marked(base(agg, 2), its(5, 3, 5, 3), 0), marked(base(agg, 9), its(3, 0, 4, 0, 5, 0), 0, 1),
		// Its numbers are not those of one item.
		changed(one, 0, func(m *api.Mark) { m.Q++ }), changed(one, 0, func(m *api.Mark) { m.Q = highest * highest }), changed(one, 0, func(m *api.Mark) { m.Min-- }), changed(one, 0, func(m *api.Mark) { m.Max++ }), changed(one, 0, func(m *api.Mark) { m.Min, m.Max = 0, highest }), changed(marked(base(agg, 7), its(5, 0), 0), 0, func(m *api.Mark) { m.Q = 1 }), changed(two, 1, func(m *api.Mark) { m.Min-- }),
	}
}

// timeBroken returns states that break condition 3 alone.
func timeBroken(agg int) []api.Smooth {
	x := empty(agg, 3, 2, 9, 5, 3)
	three := func(a, b, c int64) api.Smooth { return marked(x, its(a, 2, b, 3, c, 4), 0, 1, 2) }
	long := empty(agg, longest, 2, 9, 5, 2)
	return []api.Smooth{
		// The only mark, the second and the third one are not live.
		marked(base(agg, 1), its(2, 3), 0), marked(base(agg, 1), its(0, 3), 0), marked(empty(agg, 1, 1, 1, 1, 1), its(0, 3), 0), marked(empty(agg, longest, 1, 1, last, 1), its(last-longest, 3), 0), marked(base(agg, 2), its(2, 3, 2, 4), 0, 1), marked(base(agg, 2), its(0, 3, 1, 4), 0, 1), three(0, 1, 2), three(2, 2, 3), three(0, 2, 5), marked(empty(agg, longest, 1, 2, last, 2), its(last-longest, 3, last-longest, 3), 0, 1),
		// Ticks descend.
		three(4, 3, 5), three(5, 5, 4), three(3, 5, 3), marked(base(agg, 2), its(5, 3, 4, 4), 0, 1), marked(base(agg, 2), its(4, 3, 3, 4), 0, 1),
		// They are past Now, or negative.
		marked(base(agg, 1), its(6, 3), 0), three(3, 4, 6), three(5, 6, 6), marked(base(agg, 2), its(6, 3, 6, 3), 0, 1), marked(long, its(-1, 3, 0, 4), 0, 1), marked(long, its(-1, 3, 5, 4), 0, 1), marked(long, its(-2, 3, -1, 4), 0, 1), marked(empty(agg, longest, 1, 9, 5, 1), its(-1, 3), 0), marked(base(agg, 2), its(-1, 3, 4, 4), 0, 1),
	}
}

// sumBroken returns states that break condition 4 alone.
func sumBroken(agg int) []api.Smooth {
	list := []api.Smooth{
		// Max is not a value of the histogram, nor, for some, Min.
		pair(agg, sums(12, 90, 3, highest+1), 9), pair(agg, sums(4097, 16785409, 0, highest+1), 0), pair(agg, sums(5, 25, -highest-1, 5), 5), pair(agg, sums(highest+1, (highest+1)*(highest+1), highest+1, highest+1), highest+1),
		// Min is greater than Max.
		pair(agg, sums(12, 90, 9, 3), 9), pair(agg, sums(18, 162, 10, 9), 9), pair(agg, sums(18, 162, 9, 8), 9),
		// The sum is less than N Min, and greater than N Max.
		pair(agg, sums(7, 29, 4, 5), 5), pair(agg, sums(9, 45, 3, 4), 3), pair(agg, sums(0, 0, 1, 5), 5),
		// The sum of the squares is negative, too great, and too small.
		pair(agg, sums(0, -1, 0, 0), 0), pair(agg, sums(4, 2*highest*highest+1, 0, highest), 4), pair(agg, sums(12, 71, 0, 12), 6), pair(agg, sums(1, 0, 0, 1), 0),
		// Min falls, and Max rises.
		pair(agg, sums(12, 90, 4, 9), 3), pair(agg, sums(10, 82, 1, 8), 9), pair(agg, sums(6, 18, 3, 4), 2),
		// The items between the marks have a sum that is too small, and one that is too great.
		pair(agg, sums(10, 82, 2, 9), 9), pair(agg, sums(10, 82, 1, 8), 1), pair(agg, sums(5, 25, 2, 5), 5),
		// They have squares with a sum that is negative, too great, and too small.
		pair(agg, sums(9, 80, 0, 9), 9), pair(agg, sums(10, 80, 0, 9), 9), pair(agg, sums(10, 82+highest*highest, 0, 9), 9), pair(agg, sums(14, 105, 0, 9), 9), pair(agg, sums(13, 96, 4, 9), 9),
	}
	if agg == api.AggSum || agg == api.AggSquares {
		list = append(list, pair(agg, sums(12, 90, -1, 9), 9), pair(agg, sums(8, 82, -1, 9), 9), pair(agg, sums(5, 25, -highest, 5), 5), marked(base(agg, 1), its(5, -1), 0), marked(base(agg, 1), its(5, -highest), 0))
	}
	return append(list, marked(base(agg, 1), its(5, highest+1), 0), marked(base(agg, 1), its(5, -highest-1), 0))
}

// hugeStates returns states with numbers near the least and the greatest int64: products and sums that wrap around would look right.
func hugeStates() []api.Smooth {
	var list []api.Smooth
	for agg := 1; agg <= 4; agg++ {
		two := marked(base(agg, 2), its(4, 0, 5, 5), 0, 1)
		for _, n := range []int64{least, least + 1, -1 << 62, -1 << 32, -1<<32 + 1, 1 << 32, 1<<32 - 1, 1 << 62, 1<<62 - 1, most - 1, most} {
			for i := range 2 {
				list = append(list, changed(two, i, func(m *api.Mark) { m.Seq, m.N = n, 3-n }), changed(two, i, func(m *api.Mark) { m.Seq = n }), changed(two, i, func(m *api.Mark) { m.N = n }), changed(two, i, func(m *api.Mark) { m.T = n }), changed(two, i, func(m *api.Mark) { m.S = n }), changed(two, i, func(m *api.Mark) { m.Q = n }), changed(two, i, func(m *api.Mark) { m.Min = n }), changed(two, i, func(m *api.Mark) { m.Max = n }), changed(two, i, func(m *api.Mark) { m.Min, m.Max = n, n }), changed(two, i, func(m *api.Mark) { m.Min, m.Max = least, n }), changed(two, i, func(m *api.Mark) { m.Min, m.Max = n, most }), changed(two, i, func(m *api.Mark) { m.S, m.Q = n, n*n }), changed(two, i, func(m *api.Mark) { m.S, m.Q = n, most }), changed(two, i, func(m *api.Mark) { m.S, m.Q, m.Max = n, n*n, most }), changed(two, i, func(m *api.Mark) { m.S, m.Q, m.Min, m.Max = n, n*n, n, n }), changed(two, i, func(m *api.Mark) { m.S, m.Q, m.Min, m.Max = n, 0, least, most }))
			}
			if n >= 0 && n <= all {
				continue
			}
			x := two
			x.Seq = n
			list = append(list, x, holding(x), holding(x, alike(n, 2, 4, 5), alike(n, 1, 5, 5)), holding(x, alike(n, 1, 5, 5)))
		}
	}
	return list
}

// wrongSizes returns states with a parameter that is out of range.
func wrongSizes() []api.Smooth {
	list := []api.Smooth{{}, {Agg: 1}, {W: 3}, {K: 1}, {Cap: 2}, {Agg: 1, W: 3, K: 1}, {Agg: 2, W: 3, Cap: 2}, {Agg: 3, K: 1, Cap: 2}, {W: 3, K: 1, Cap: 2}}
	for agg := 1; agg <= 4; agg++ {
		for _, x := range []api.Smooth{base(agg, 0), marked(base(agg, 1), its(5, 3), 0), marked(base(agg, 2), its(2, 0, 5, 5), 0, 1)} {
			for _, n := range []int64{0, -1, least, most, 1<<32 + 1, all + 1} {
				list = append(list, with(x, n, x.W, x.K, x.Cap), with(x, int64(agg), n, x.K, x.Cap), with(x, int64(agg), x.W, int(n), x.Cap), with(x, int64(agg), x.W, x.K, int(n)))
			}
			list = append(list, with(x, 5, x.W, x.K, x.Cap), with(x, int64(agg), longest+1, x.K, x.Cap), with(x, int64(agg), x.W, finest+1, x.Cap), with(x, int64(agg), x.W, x.K, fullest+1))
			for _, n := range []int64{-1, least, most, 1<<32 + 5, last + 1} {
				y, z := x, x
				y.Now = n
				z.Seq = []int64{-1, least, most, all + 1, all + 2}[len(list)%5]
				list = append(list, y, z)
			}
		}
		list = append(list, base(agg, -1), base(agg, least), base(agg, all+1), base(agg, most), marked(base(agg, all+1), its(5, 3), 0), marked(base(agg, all+2), its(4, 0, 5, 5), 0, 1), marked(empty(agg, 3, 1, 9, last+1, 1), its(last, 3), 0), marked(empty(agg, 3, 1, 9, last+1, 1), its(last+1, 3), 0), marked(empty(agg, 3, 1, 9, -1, 1), its(-1, 3), 0))
	}
	return list
}

// with returns the state with other parameters.
func with(x api.Smooth, agg, w int64, k, size int) api.Smooth {
	x.Agg, x.W, x.K, x.Cap = int(agg), w, k, size
	return x
}

// invalidStates returns states that are not valid.
func invalidStates() []api.Smooth {
	list := append(wrongSizes(), hugeStates()...)
	for _, states := range oneBroken() {
		list = append(list, states...)
	}
	return list
}

func TestValidate(t *testing.T) {
	for i, x := range validStates() {
		if err := Validate(x); err != api.OK || !valid(x) {
			t.Errorf("valid state %d: Validate(%v) = %d; it breaks %v", i, x, err, broken(x))
		}
	}
	for i, x := range invalidStates() {
		if err := Validate(x); err != api.ErrState || valid(x) {
			t.Errorf("invalid state %d: Validate(%v) = %d", i, x, err)
		}
	}
	for condition, states := range oneBroken() {
		for i, x := range states {
			if !framed(x) || !slices.Equal(broken(x), []int{condition}) {
				t.Errorf("state %d breaks not only condition %d, but %v: %v", i, condition, broken(x), x)
			}
		}
	}
}

// TestStateFirst checks that an invalid state is answered with ErrState, whatever the other arguments are.
func TestStateFirst(t *testing.T) {
	for i, x := range invalidStates() {
		for _, n := range []int64{x.Now, x.Now - 1, x.Now + 1, 0, 1, 5, highest, highest + 1, -highest, -highest - 1, last, last + 1, -1, least, most} {
			if got, err := Advance(x, n); err != api.ErrState || !same(got, api.Smooth{}) {
				t.Errorf("invalid state %d: Advance to %d = %v, %d", i, n, got, err)
			}
			if got, err := Add(x, n); err != api.ErrState || !same(got, api.Smooth{}) {
				t.Errorf("invalid state %d: Add of %d = %v, %d", i, n, got, err)
			}
		}
		if got, err := Ask(x); err != api.ErrState || got != (api.Bounds{}) {
			t.Errorf("invalid state %d: Ask = %v, %d", i, got, err)
		}
	}
}

// setters returns functions that set one number of a mark each.
func setters() []func(m *api.Mark, n int64) {
	return []func(m *api.Mark, n int64){
		func(m *api.Mark, n int64) { m.Seq = n }, func(m *api.Mark, n int64) { m.T = n }, func(m *api.Mark, n int64) { m.N = n }, func(m *api.Mark, n int64) { m.S = n }, func(m *api.Mark, n int64) { m.Q = n }, func(m *api.Mark, n int64) { m.Min = n }, func(m *api.Mark, n int64) { m.Max = n },
		func(m *api.Mark, n int64) { m.Seq += n }, func(m *api.Mark, n int64) { m.T += n }, func(m *api.Mark, n int64) { m.N += n }, func(m *api.Mark, n int64) { m.S += n }, func(m *api.Mark, n int64) { m.Q += n }, func(m *api.Mark, n int64) { m.Min += n }, func(m *api.Mark, n int64) { m.Max += n },
	}
}

// checkValid compares Validate with what the chapter says.
func checkValid(t *testing.T, x api.Smooth) api.Errno {
	t.Helper()
	why := code(valid(x))
	if err := Validate(x); err != why {
		t.Fatalf("Validate(%v) = %d, not %d", x, err, why)
	}
	return why
}

// TestValidateAroundTheLimits changes one number of a valid state.
func TestValidateAroundTheLimits(t *testing.T) {
	seen := map[api.Errno]int{}
	for _, x := range someStates() {
		for _, n := range edges() {
			for i := range x.Marks {
				for _, set := range setters() {
					seen[checkValid(t, changed(x, i, func(m *api.Mark) { set(m, n) }))]++
				}
			}
			now, seq := x, x
			now.Now, seq.Seq = n, n
			for _, y := range []api.Smooth{now, seq, with(x, n, x.W, x.K, x.Cap), with(x, int64(x.Agg), n, x.K, x.Cap), with(x, int64(x.Agg), x.W, int(n), x.Cap), with(x, int64(x.Agg), x.W, x.K, int(n))} {
				seen[checkValid(t, y)]++
			}
		}
	}
	if seen[api.OK] < 3000 || seen[api.ErrState] < 100000 {
		t.Errorf("the results are too much alike: %v", seen)
	}
}

// TestValidateOfManyChanges changes several numbers of valid states by a little, at random, and removes marks.
func TestValidateOfManyChanges(t *testing.T) {
	source := rand.New(rand.NewSource(16))
	states := validStates()
	set := setters()[7:]
	seen := map[api.Errno]int{}
	for range 200000 {
		x := copied(states[source.Intn(len(states))])
		for range 1 + source.Intn(3) {
			if len(x.Marks) == 0 {
				break
			}
			i := source.Intn(len(x.Marks))
			if source.Intn(6) == 0 {
				x.Marks = slices.Delete(x.Marks, i, i+1)
				continue
			}
			set[source.Intn(len(set))](&x.Marks[i], source.Int63n(9)-4)
		}
		seen[checkValid(t, x)]++
	}
	if seen[api.OK] < 20000 || seen[api.ErrState] < 50000 {
		t.Errorf("the results are too much alike: %v", seen)
	}
}

// TestExamples follows the chapter's example, and its neighbours.
func TestExamples(t *testing.T) {
	x, err := New(api.AggCount, 10, 1, 100, 0)
	step(t, "New", x, err, api.OK, empty(api.AggCount, 10, 1, 100, 0, 0))
	asked(t, "nothing", x, whole(0, 0, 0))
	for i, want := range [][]int64{{1}, {2, 1}, {3, 2, 1}, {4, 2, 1}, {5, 3, 2, 1}, {6, 3, 2, 1}, {7, 4, 2, 1}, {8, 5, 3, 2, 1}, {9, 6, 3, 2, 1}, {10, 7, 4, 2, 1}, {11, 8, 5, 3, 2, 1}, {12, 6, 3, 2, 1}} {
		x = added(t, x, int64(i)-5)
		n := int64(i + 1)
		if got := numbers(x); !slices.Equal(got, want) || x.Seq != n {
			t.Errorf("after %d items, N is %v, not %v", n, got, want)
		}
		asked(t, "all", x, whole(n, n, n))
	}
	for _, c := range []struct {
		agg, k int
		values []int64
		want   []int64
	}{
		{api.AggSum, 1, vals(0), vals(0)}, {api.AggSum, 1, vals(0, 0, 0), vals(0, 0)}, {api.AggSum, 1, vals(8, 4, 4), vals(16, 8, 4)}, {api.AggSum, 1, vals(4, 4, 8), vals(16, 8)}, {api.AggSum, 1, vals(1, 2, 4, 8, 16), vals(31, 16)}, {api.AggSum, 1, vals(16, 8, 4, 2, 1), vals(31, 15, 7, 3, 1)}, {api.AggSum, finest, vals(highest, highest), vals(8192, 4096)},
		{api.AggSquares, 2, vals(1, 2, 3), vals(14, 13, 9)}, {api.AggSquares, 1, vals(1, 2, 3), vals(14, 9)}, {api.AggSquares, 1, vals(0, 0, 0, 0), vals(0, 0)}, {api.AggSquares, 1, vals(highest, highest-1, 1), vals(33546242, 16769026, 1)},
		{api.AggRange, 1, vals(5, -5, 0, 3), vals(10, 8, 3, 0)}, {api.AggRange, 1, vals(7, 7, 7, 7), vals(0, 0)}, {api.AggRange, 1, vals(-highest, highest), vals(8192, 0)}, {api.AggRange, 1, vals(-highest, highest, -highest, highest), vals(8192, 8192, 0)}, {api.AggRange, 1, vals(0, 0, 0, 1), vals(1, 1, 0)},
	} {
		x := empty(c.agg, 10, c.k, 100, 0, 0)
		if got := numbers(added(t, x, c.values...)); !slices.Equal(got, c.want) {
			t.Errorf("aggregate %d, k %d: the marks of %v have %v, not %v", c.agg, c.k, c.values, got, c.want)
		}
	}
}

func TestAdvance(t *testing.T) {
	four := marked(empty(api.AggCount, 3, 1, 9, 5, 5), its(2, 1, 3, 2, 3, 3, 4, 4, 5, 5), 0, 2, 3, 4)
	equal := marked(empty(api.AggSum, 3, 1, 9, 5, 9), its(3, 9, 3, 4, 3, 2, 5, 1, 5, 0), 0, 1, 2, 3, 4)
	width := marked(empty(api.AggRange, 10, 1, 9, 10, all), its(2, 9, 3, 0, 8, 5, 10, 1), 0, 1, 2, 3)
	for _, c := range []struct {
		x    api.Smooth
		now  int64
		from int // the first mark that stays
	}{
		// By nothing, by one tick, by a window and by more, to the last tick.
		{four, 5, 0}, {four, 6, 1}, {four, 7, 2}, {four, 8, 4}, {four, 9, 4}, {four, last, 4},
		// Equal ticks: the first mark stays as long as the second one is not live.
		{equal, 5, 0}, {equal, 6, 2}, {equal, 7, 2}, {equal, 8, 5}, {equal, last, 5}, {holding(equal, equal.Marks[4:]...), 7, 0}, {holding(equal, equal.Marks[4:]...), 8, 1}, {holding(equal, equal.Marks[3:]...), 7, 0}, {holding(equal, equal.Marks[3:]...), 8, 2},
		// No mark, one and several go; the first mark that stays is live and not.
		{width, 10, 0}, {width, 11, 0}, {width, 12, 0}, {width, 13, 1}, {width, 14, 1}, {width, 17, 1}, {width, 18, 2}, {width, 19, 2}, {width, 20, 4}, {width, last, 4},
		// Nothing has to leave the empty histogram.
		{base(api.AggSum, 0), 5, 0}, {base(api.AggSum, 7), 6, 0}, {base(api.AggRange, all), 8, 0}, {base(api.AggCount, 0), last, 0}, {empty(api.AggCount, 3, 1, 1, last, 0), last, 0}, {empty(api.AggSquares, longest, finest, fullest, 5, 9), last, 0},
		// A single mark is live for the last tick, and has just left.
		{marked(base(api.AggCount, 1), its(5, 0), 0), 7, 0}, {marked(base(api.AggCount, 1), its(5, 0), 0), 8, 1}, {marked(base(api.AggSum, 1), its(3, 4), 0), 5, 0}, {marked(base(api.AggSum, 1), its(3, 4), 0), 6, 1}, {marked(empty(api.AggRange, 3, 1, 1, 0, 1), its(0, 4), 0), 2, 0}, {marked(empty(api.AggRange, 3, 1, 1, 0, 1), its(0, 4), 0), 3, 1},
		// The second mark of two is live for the last tick, and has just left.
		{marked(base(api.AggSquares, 2), its(2, 4, 3, 4), 0, 1), 5, 0}, {marked(base(api.AggSquares, 2), its(2, 4, 3, 4), 0, 1), 6, 2}, {marked(base(api.AggSquares, 2), its(4, 4, 5, 4), 0, 1), 7, 0}, {marked(base(api.AggSquares, 2), its(4, 4, 5, 4), 0, 1), 8, 2},
		// A window of 1 and the longest one, with the first and the last tick.
		{marked(empty(api.AggSum, 1, 1, 2, 5, 2), its(5, 0, 5, 0), 0, 1), 5, 0}, {marked(empty(api.AggSum, 1, 1, 2, 5, 2), its(5, 0, 5, 0), 0, 1), 6, 2}, {marked(empty(api.AggSum, 1, 1, 1, last-1, 2), its(last-1, 0), 0), last, 1}, {marked(empty(api.AggSum, 1, 1, 1, last, 2), its(last, 0), 0), last, 0}, {marked(empty(api.AggCount, longest, 1, 2, 1, 2), its(0, 0, 1, 0), 0, 1), longest - 1, 0}, {marked(empty(api.AggCount, longest, 1, 2, 1, 2), its(0, 0, 1, 0), 0, 1), longest, 0}, {marked(empty(api.AggCount, longest, 1, 2, 1, 2), its(0, 0, 1, 0), 0, 1), longest + 1, 2}, {marked(empty(api.AggCount, longest, 1, 1, 0, 1), its(0, 0), 0), longest - 1, 0}, {marked(empty(api.AggCount, longest, 1, 1, 0, 1), its(0, 0), 0), longest, 1}, {marked(empty(api.AggRange, longest, 1, 2, last-longest, 2), its(last-longest, 0, last-longest, 0), 0, 1), last, 2}, {marked(empty(api.AggRange, longest, 1, 2, last-longest+1, 2), its(last-longest, 0, last-longest+1, 0), 0, 1), last, 0},
	} {
		want := holding(c.x, c.x.Marks[c.from:]...)
		want.Now = c.now
		got, err := Advance(c.x, c.now)
		if err != api.OK || !same(got, want) {
			t.Errorf("Advance(%v, %d) = %v, %d", c.x, c.now, got, err)
		}
		checkAdvance(t, c.x, c.now)
		checkAsk(t, got)
		checkAdd(t, got, highest)
	}
}

// someStates returns valid states of all sorts, not too many.
func someStates() []api.Smooth {
	var list []api.Smooth
	for i, x := range validStates() {
		if i%7 == 0 || len(x.Marks) == 0 || len(x.Marks) > 10 {
			list = append(list, x)
		}
	}
	return list
}

func TestAdvanceErrors(t *testing.T) {
	for _, x := range someStates() {
		for _, now := range edges() {
			checkAdvance(t, x, now)
		}
		for _, now := range []int64{x.Now - 1, -1, least, least + x.Now, last + 1, last + 2, most, 1<<32 + x.Now} {
			if got, err := Advance(x, now); err != api.ErrTime || !same(got, api.Smooth{}) {
				t.Errorf("Advance(%v, %d) = %v, %d", x, now, got, err)
			}
		}
	}
}

func TestAdd(t *testing.T) {
	for _, c := range []struct {
		s     shape
		v     int64
		stays []int // the places of the marks that stay, of the value's too
	}{
		// To the mark of one item: no mark goes.
		{shape{api.AggCount, 1, vals(0), at(0)}, 0, at(0, 1)}, {shape{api.AggCount, finest, vals(highest), at(0)}, -highest, at(0, 1)}, {shape{api.AggSum, 1, vals(0), at(0)}, highest, at(0, 1)}, {shape{api.AggSum, 1, vals(highest), at(0)}, 0, at(0, 1)}, {shape{api.AggSquares, 1, vals(highest), at(0)}, highest, at(0, 1)}, {shape{api.AggRange, 1, vals(highest), at(0)}, -highest, at(0, 1)}, {shape{api.AggRange, 1, vals(-highest), at(0)}, -highest, at(0, 1)},
		// To several marks: no mark goes.
		{shape{api.AggCount, 1, vals(5, 5), at(0, 1)}, 5, at(0, 1, 2)}, {shape{api.AggCount, 1, vals(1, 2, 3, 4), at(0, 2, 3)}, 5, at(0, 2, 3, 4)}, {shape{api.AggSum, 1, vals(8, 4), at(0, 1)}, 4, at(0, 1, 2)}, {shape{api.AggSum, 1, vals(8, 4, 2), at(0, 1, 2)}, 1, at(0, 1, 2, 3)}, {shape{api.AggSum, 1, vals(8, 4, 2), at(0, 1, 2)}, 0, at(0, 1, 2, 3)}, {shape{api.AggSquares, 2, vals(1, 2), at(0, 1)}, 3, at(0, 1, 2)}, {shape{api.AggRange, 1, vals(5, -5, 0), at(0, 1, 2)}, 3, at(0, 1, 2, 3)}, {shape{api.AggCount, finest, vals(1, 2, 3, 4), at(0, 1, 2, 3)}, 5, at(0, 1, 2, 3, 4)},
		// One goes: the second one, a later one, the last one.
		{shape{api.AggCount, 1, vals(1, 2, 3), at(0, 1, 2)}, 4, at(0, 2, 3)}, {shape{api.AggCount, 1, vals(1, 2, 3, 4, 5), at(0, 2, 3, 4)}, 6, at(0, 3, 4, 5)}, {shape{api.AggSum, 1, vals(2, 2), at(0, 1)}, 4, at(0, 2)}, {shape{api.AggSum, 1, vals(64, 32, 16, 8, 4, 2, 1), at(0, 1, 2, 3, 4, 5, 6)}, 5, at(0, 1, 2, 3, 4, 6, 7)}, {shape{api.AggSum, 1, vals(50, 20, 20, 1, 1), at(0, 1, 2, 3, 4)}, 10, at(0, 1, 2, 3, 5)}, {shape{api.AggSum, 1, vals(99, 50, 1, 1), at(0, 1, 2, 3)}, 3, at(0, 1, 2, 4)}, {shape{api.AggSum, 1, vals(8, 0, 0), at(0, 1, 2)}, 0, at(0, 1, 3)}, {shape{api.AggSquares, 1, vals(1, 2), at(0, 1)}, 3, at(0, 2)}, {shape{api.AggRange, 1, vals(7, 7), at(0, 1)}, 7, at(0, 2)}, {shape{api.AggRange, 1, vals(9, 0, 5), at(0, 1, 2)}, -highest, at(0, 2, 3)},
		// Several in a row go: all between the first one and the last one, and some.
		{shape{api.AggSum, 1, vals(4, 2, 1), at(0, 1, 2)}, highest, at(0, 3)}, {shape{api.AggSum, 1, vals(16, 8, 4, 2, 1), at(0, 1, 2, 3, 4)}, 31, at(0, 5)}, {shape{api.AggSum, 1, vals(99, 8, 4, 2, 1), at(0, 1, 2, 3, 4)}, 31, at(0, 1, 5)}, {shape{api.AggSquares, 1, vals(9, 5, 2, 1), at(0, 1, 2, 3)}, 60, at(0, 4)}, {shape{api.AggRange, 1, vals(9, 0, 5, 1), at(0, 1, 2, 3)}, 100, at(0, 3, 4)}, {shape{api.AggRange, 1, vals(4096, -4096, 2, 1), at(0, 1, 2, 3)}, -4096, at(0, 3, 4)}, {shape{api.AggSum, 1, vals(50, 50, 10, 9, 1), at(0, 1, 2, 3, 4)}, 20, at(0, 1, 2, 5)}, {shape{api.AggRange, 1, vals(50, 0, 26, 9, 20), at(0, 1, 2, 3, 4)}, 60, at(0, 4, 5)},
		// Several at different places go.
		{shape{api.AggCount, 1, vals(1, 2, 3, 4, 5, 6, 7, 8, 9, 10, 11), at(0, 3, 6, 8, 9, 10)}, 12, at(0, 6, 9, 10, 11)}, {shape{api.AggSum, 1, vals(6, 5, 5, 1, 4), at(0, 1, 2, 3, 4)}, 2, at(0, 2, 4, 5)}, {shape{api.AggSquares, 1, vals(3, 2, 2, 1, 2), at(0, 1, 2, 3, 4)}, 2, at(0, 2, 4, 5)}, {shape{api.AggRange, 1, vals(0, 10, 30, 40, 45), at(0, 1, 2, 3, 4)}, 60, at(0, 2, 4, 5)},
		// K (Of the first one) is equal to (K + 1) (Of the other one), and just greater.
		{shape{api.AggSum, 1, vals(1, 1), at(0, 1)}, 2, at(0, 2)}, {shape{api.AggSum, 1, vals(1, 2), at(0, 1)}, 2, at(0, 1, 2)}, {shape{api.AggSum, finest, vals(1, 0), at(0, 1)}, 64, at(0, 2)}, {shape{api.AggSum, finest, vals(1, 1), at(0, 1)}, 64, at(0, 1, 2)}, {shape{api.AggSum, finest, vals(63, 1), at(0, 1)}, highest, at(0, 2)}, {shape{api.AggSum, finest, vals(64, 1), at(0, 1)}, highest, at(0, 1, 2)}, {shape{api.AggSquares, 2, vals(1, 1), at(0, 1)}, 2, at(0, 2)}, {shape{api.AggSquares, 3, vals(1, 1), at(0, 1)}, 2, at(0, 1, 2)}, {shape{api.AggRange, finest, vals(65, 0, 64), at(0, 1, 2)}, 0, at(0, 2, 3)}, {shape{api.AggRange, finest, vals(66, 0, 65), at(0, 1, 2)}, 0, at(0, 2, 3)},
	} {
		for _, first := range []int64{3, 2, 0} {
			if len(c.s.places) == 1 && first < 3 {
				continue
			}
			for _, seq := range []int64{int64(len(c.s.values)), all - 1} {
				for room := 1; room <= 2; room++ {
					x := c.s.state(first, seq, room)
					want := x
					want.Seq++
					want = marked(want, append(c.s.timed(first), api.Item{T: 5, V: c.v}), c.stays...)
					if got, err := Add(x, c.v); err != api.OK || !same(got, want) {
						t.Fatalf("Add(%v, %d) = %v, %d, not %v", x, c.v, got, err, want)
					}
					checkAdd(t, x, c.v)
				}
			}
		}
	}
}

// TestAddErrors adds values that are out of range, which is looked at first, and values for which there is no room.
func TestAddErrors(t *testing.T) {
	for _, x := range someStates() {
		low := map[int]int64{api.AggCount: -highest, api.AggSum: 0, api.AggSquares: 0, api.AggRange: -highest}[x.Agg]
		for _, v := range []int64{low - 1, low - 2, -highest - 1, -2 * highest, least, least + 1, highest + 1, highest + 2, fullest, 1 << 32, 1<<32 + 1, 1 << 62, most - 1, most} {
			if got, err := Add(x, v); err != api.ErrRange || !same(got, api.Smooth{}) {
				t.Errorf("Add(%v, %d) = %v, %d", x, v, got, err)
			}
		}
		full := x.Seq == all || len(x.Marks) > 0 && x.Marks[0].N == int64(x.Cap)
		for _, v := range []int64{low, low + 1, -1, 0, 1, highest - 1, highest} {
			checkAdd(t, x, v)
			if v < low || !full {
				continue
			}
			if got, err := Add(x, v); err != api.ErrFull || !same(got, api.Smooth{}) {
				t.Errorf("Add(%v, %d) = %v, %d", x, v, got, err)
			}
		}
	}
}

// TestValues adds the least and the greatest values of each aggregate, and the numbers next to them, to the empty histogram.
func TestValues(t *testing.T) {
	for _, c := range []struct {
		agg int
		v   int64
		why api.Errno
	}{
		{api.AggCount, -4096, api.OK}, {api.AggCount, 4096, api.OK}, {api.AggCount, -1, api.OK}, {api.AggCount, 0, api.OK}, {api.AggCount, -4097, api.ErrRange}, {api.AggCount, 4097, api.ErrRange},
		{api.AggSum, 0, api.OK}, {api.AggSum, 1, api.OK}, {api.AggSum, 4096, api.OK}, {api.AggSum, -1, api.ErrRange}, {api.AggSum, -4096, api.ErrRange}, {api.AggSum, 4097, api.ErrRange},
		{api.AggSquares, 0, api.OK}, {api.AggSquares, 1, api.OK}, {api.AggSquares, 4096, api.OK}, {api.AggSquares, -1, api.ErrRange}, {api.AggSquares, -4096, api.ErrRange}, {api.AggSquares, 4097, api.ErrRange},
		{api.AggRange, -4096, api.OK}, {api.AggRange, 4096, api.OK}, {api.AggRange, -1, api.OK}, {api.AggRange, 0, api.OK}, {api.AggRange, -4097, api.ErrRange}, {api.AggRange, 4097, api.ErrRange},
	} {
		x := base(c.agg, 6)
		want := marked(base(c.agg, 7), its(5, c.v), 0)
		if c.why != api.OK {
			want = api.Smooth{}
		}
		got, err := Add(x, c.v)
		step(t, "Add", got, err, c.why, want)
		// The sequence numbers have come to their end: the range is looked at first.
		x.Seq = all
		if c.why == api.OK {
			c.why = api.ErrFull
		}
		got, err = Add(x, c.v)
		step(t, "Add after the last item", got, err, c.why, api.Smooth{})
	}
}

// TestFull adds to full histograms, which still answer and move.
func TestFull(t *testing.T) {
	for agg := 1; agg <= 4; agg++ {
		for _, x := range []api.Smooth{marked(empty(agg, 3, 1, 1, 5, 7), its(5, 0), 0), marked(empty(agg, 3, 1, 2, 5, 7), its(2, 0, 3, 0), 0, 1), marked(empty(agg, 3, 2, 3, 5, 3), its(2, 9, 3, 3, 5, 0), 0, 1, 2), filled(agg), base(agg, all), marked(base(agg, all), its(5, 0), 0), marked(empty(agg, 3, 1, 1, 5, all), its(5, highest), 0)} {
			for _, v := range []int64{0, 1, highest} {
				got, err := Add(x, v)
				step(t, "Add to a full histogram", got, err, api.ErrFull, api.Smooth{})
			}
			for _, v := range []int64{-highest - 1, highest + 1, least, most} {
				got, err := Add(x, v)
				step(t, "Add of a wrong value to a full histogram", got, err, api.ErrRange, api.Smooth{})
			}
			checkAsk(t, x)
			checkAdvance(t, x, x.Now)
			checkAdvance(t, x, last)
			// With room for one item more, it takes one, unless the items have come to their end.
			if x.Cap++; x.Cap <= fullest {
				checkAdd(t, x, 1)
			}
		}
	}
	// Just below Cap, and just below MaxTotal.
	for agg := 1; agg <= 4; agg++ {
		x := added(t, marked(empty(agg, 3, 1, 2, 5, 7), its(3, 4), 0), 9)
		step(t, "Add of the last item of two", x, api.OK, api.OK, marked(empty(agg, 3, 1, 2, 5, 8), its(3, 4, 5, 9), 0, 1))
		y := added(t, base(agg, all-1), 9)
		step(t, "Add of the last item of all", y, api.OK, api.OK, marked(base(agg, all), its(5, 9), 0))
		for _, full := range []api.Smooth{x, y} {
			got, err := Add(full, 0)
			step(t, "Add of one more", got, err, api.ErrFull, api.Smooth{})
		}
	}
}

// TestFullOfExpiredItems fills a histogram whose first mark has items that are no longer live but still count.
func TestFullOfExpiredItems(t *testing.T) {
	x, _ := New(api.AggSum, 3, 1, 4, 0)
	x = added(t, x, 5, 6)
	x = added(t, moved(t, x, 2), 2, 9)
	items := its(0, 5, 0, 6, 2, 2, 2, 9)
	step(t, "four items", x, api.OK, api.OK, marked(empty(api.AggSum, 3, 1, 4, 2, 4), items, 0, 2, 3))
	x = moved(t, x, 4)
	// The two first items have left, but nobody knows of the second one.
	asked(t, "two of four items", x, whole(11, 16, 22))
	for _, v := range []int64{0, highest} {
		got, err := Add(x, v)
		step(t, "Add at tick 4", got, err, api.ErrFull, api.Smooth{})
	}
	x = moved(t, x, 5)
	step(t, "Advance to tick 5", x, api.OK, api.OK, empty(api.AggSum, 3, 1, 4, 5, 4))
	x = added(t, x, 1)
	step(t, "Add at tick 5", x, api.OK, api.OK, marked(empty(api.AggSum, 3, 1, 4, 5, 5), its(5, 1), 0))
	asked(t, "1", x, whole(1, 1, 1))
}

func TestAsk(t *testing.T) {
	for _, c := range []struct {
		s       shape
		live    api.Bounds // if the first mark is live
		expired api.Bounds // if it is not
	}{
		// The second mark is next to the first one.
		{shape{api.AggCount, 1, vals(5, -5), at(0, 1)}, whole(2, 2, 2), whole(1, 1, 1)}, {shape{api.AggCount, 1, vals(5, -5, 5), at(0, 1, 2)}, whole(3, 3, 3), whole(2, 2, 2)}, {shape{api.AggSum, 1, vals(8, 4, 4), at(0, 1, 2)}, whole(16, 16, 16), whole(8, 8, 8)}, {shape{api.AggSum, 1, vals(9, 0), at(0, 1)}, whole(9, 9, 9), whole(0, 0, 0)}, {shape{api.AggSquares, 2, vals(1, 2, 3), at(0, 1, 2)}, whole(14, 14, 14), whole(13, 13, 13)}, {shape{api.AggSquares, 1, vals(highest, highest), at(0, 1)}, whole(33554432, 33554432, 33554432), whole(16777216, 16777216, 16777216)}, {shape{api.AggRange, 1, vals(5, -5, 0, 3), at(0, 1, 2, 3)}, whole(10, 10, 10), whole(8, 8, 8)}, {shape{api.AggRange, 1, vals(-highest, highest), at(0, 1)}, whole(8192, 8192, 8192), whole(0, 0, 0)},
		// It is not.
		{shape{api.AggCount, 1, vals(5, -5, 5, 9), at(0, 2, 3)}, whole(4, 4, 4), whole(2, 3, 4)}, {shape{api.AggCount, 1, vals(5, -5, 5, 9, 0), at(0, 2, 3, 4)}, whole(5, 5, 5), whole(3, 4, 5)}, {shape{api.AggCount, 1, vals(1, 2, 3, 4, 5, 6), at(0, 3, 4, 5)}, whole(6, 6, 6), whole(3, 4, 6)}, {shape{api.AggSum, 1, vals(4, 4, 8), at(0, 2)}, whole(16, 16, 16), whole(8, 12, 16)}, {shape{api.AggSum, 1, vals(0, 0, 0), at(0, 2)}, whole(0, 0, 0), whole(0, 0, 0)}, {shape{api.AggSum, 1, vals(0, 1, 8), at(0, 2)}, whole(9, 9, 9), whole(8, 8, 9)}, {shape{api.AggSquares, 2, vals(1, 1, 3), at(0, 2)}, whole(11, 11, 11), whole(9, 10, 11)}, {shape{api.AggRange, 1, vals(5, 1, -5, 0), at(0, 2, 3)}, whole(10, 10, 10), whole(5, 7, 10)}, {shape{api.AggRange, 1, vals(7, 7, 7, 7), at(0, 3)}, whole(0, 0, 0), whole(0, 0, 0)}, {shape{api.AggRange, 1, vals(-highest, highest, -highest, highest), at(0, 2, 3)}, whole(8192, 8192, 8192), whole(8192, 8192, 8192)},
	} {
		for _, seq := range []int64{int64(len(c.s.values)), all} {
			asked(t, "the first mark is live", c.s.state(3, seq, 0), c.live)
			asked(t, "it has just left", c.s.state(2, seq, 0), c.expired)
			asked(t, "it has left", c.s.state(0, seq, 9), c.expired)
		}
	}
	for agg := 1; agg <= 4; agg++ {
		asked(t, "no mark", base(agg, 9), whole(0, 0, 0))
		n := map[int]int64{1: 1, 2: 5, 3: 25, 4: 0}[agg]
		asked(t, "one mark", marked(base(agg, 9), its(3, 5), 0), whole(n, n, n))
		n = map[int]int64{1: 65536, 2: 268435456, 3: 1099511627776, 4: 8192}[agg]
		asked(t, "the greatest histogram", filled(agg), whole(n, n, n))
		old := changed(filled(agg), 0, func(m *api.Mark) { m.T = 0 })
		if agg == api.AggRange {
			asked(t, "its last marks", old, whole(n, n, n))
		} else {
			asked(t, "its last marks", old, whole(n/2, n/4*3, n))
		}
	}
	for _, x := range validStates() {
		checkAsk(t, x)
	}
}

// stream is a histogram with all items that were added; the item i has the number i + 1.
type stream struct {
	x     api.Smooth
	items []api.Item
	fast  bool // the calls are not compared with those of the model
}

// newStream returns an empty stream with these parameters.
func newStream(t *testing.T, agg int, w int64, k, size int, now int64) *stream {
	t.Helper()
	x, err := New(agg, w, k, size, now)
	if err != api.OK {
		t.Fatalf("New(%d, %d, %d, %d, %d) = %d", agg, w, k, size, now, err)
	}
	return &stream{x: x}
}

// live returns the live items.
func (s *stream) live() []api.Item {
	i := len(s.items)
	for i > 0 && inWindow(s.items[i-1].T, s.x.Now, s.x.W) {
		i--
	}
	return s.items[i:]
}

// truth returns the aggregate of the live items.
func (s *stream) truth() int64 {
	items := s.live()
	if len(items) == 0 {
		return 0
	}
	return aggregate(mark(1, items), s.x.Agg)
}

// check holds the histogram against its items.
func (s *stream) check(t *testing.T) {
	t.Helper()
	if Validate(s.x) != api.OK || !valid(s.x) || s.x.Seq != int64(len(s.items)) {
		t.Fatalf("after %d items, %v is not valid", len(s.items), s.x)
	}
	b, err := Ask(s.x)
	lo, hi, n := b.Lo.Num, b.Hi.Num, s.truth()
	if err != api.OK || b.Lo.Den != 1 || b.Hi.Den != 1 || n < lo || n > hi {
		t.Fatalf("with an aggregate of %d, Ask(%v) = %v, %d", n, s.x, b, err)
	}
	if int64(s.x.K)*(hi-lo) > lo {
		t.Fatalf("the answer of %v is too wide: %v", s.x, b)
	}
	if len(s.x.Marks) > limit(s.x.Agg, s.x.K, s.x.Cap) || len(s.x.Marks) > Most(s.x.Agg, s.x.K, s.x.Cap) {
		t.Fatalf("%v has too many marks", s.x)
	}
}

// checkMarks holds the marks against the items from them on.
func (s *stream) checkMarks(t *testing.T) {
	t.Helper()
	for _, m := range s.x.Marks {
		if want := mark(m.Seq, s.items[m.Seq-1:]); m != want {
			t.Fatalf("the mark %v is not %v", m, want)
		}
	}
}

// add adds a value, if the histogram takes it, and holds an error against the live items.
func (s *stream) add(t *testing.T, v int64) bool {
	t.Helper()
	if !s.fast {
		checkAdd(t, s.x, v)
	}
	y, err := Add(s.x, v)
	if err == api.OK {
		s.x, s.items = y, append(s.items, api.Item{T: s.x.Now, V: v})
		return true
	}
	if err != api.ErrFull || s.x.Marks[0].N != int64(s.x.Cap) {
		t.Fatalf("Add(%v, %d) = %d", s.x, v, err)
	}
	return false
}

func (s *stream) advance(t *testing.T, now int64) {
	t.Helper()
	checkAdvance(t, s.x, now)
	s.x = moved(t, s.x, now)
}

// drawn returns a value for an aggregate: from a few values, from many, or one of the least and the greatest.
func drawn(source *rand.Rand, agg, sort int) int64 {
	v := []int64{source.Int63n(2), source.Int63n(10), source.Int63n(highest + 1), highest * source.Int63n(2), highest >> source.Intn(14), 7}[sort]
	if (agg == api.AggCount || agg == api.AggRange) && source.Intn(2) == 0 {
		return -v
	}
	return v
}

// TestStreams adds values and moves the clock at random.
func TestStreams(t *testing.T) {
	source := rand.New(rand.NewSource(17))
	seen := map[bool]int{}
	for round := range 240 {
		agg, w := 1+round%4, 1+source.Int63n(40)
		k := []int{1, 2, 3, 5, 17, finest}[source.Intn(6)]
		start := []int64{0, 0, source.Int63n(100), last - 300}[source.Intn(4)]
		s := newStream(t, agg, w, k, 1+source.Intn(120), start)
		sort := source.Intn(6)
		for range 200 {
			switch source.Intn(3) {
			case 0:
				step := max(0, source.Int63n(6)-3)
				if source.Intn(20) == 0 {
					step = w - 2 + source.Int63n(4)
				}
				s.advance(t, min(last, s.x.Now+max(0, step)))
			default:
				seen[s.add(t, drawn(source, agg, sort))]++
			}
			s.check(t)
			s.checkMarks(t)
		}
	}
	if seen[true] < 10000 || seen[false] < 1000 {
		t.Errorf("the results are too much alike: %v", seen)
	}
}

// TestLongStreams adds many items to histograms of the greatest capacity, at first more of them at one tick than later.
func TestLongStreams(t *testing.T) {
	for agg := 1; agg <= 4; agg++ {
		for _, k := range []int{1, finest} {
			source := rand.New(rand.NewSource(18))
			s := newStream(t, agg, 500, k, fullest, last-8000)
			s.fast = true
			for i := range int64(4000) {
				if i%400 >= min(300, i/5) {
					s.x = moved(t, s.x, s.x.Now+1)
				}
				s.add(t, drawn(source, agg, int(i/700)))
				if i%37 == 0 {
					s.check(t)
					s.checkMarks(t)
				}
			}
			for s.x.Now < last {
				s.x = moved(t, s.x, min(last, s.x.Now+53))
				s.check(t)
			}
			if n := len(s.x.Marks); n != 0 {
				t.Fatalf("at the last tick, there are %d marks", n)
			}
		}
	}
}

// TestGreatestStreams fills histograms of the greatest capacity with the greatest values.
func TestGreatestStreams(t *testing.T) {
	for agg := 1; agg <= 4; agg++ {
		x, _ := New(agg, longest, 1, fullest, last-1)
		for i := range int64(fullest) {
			v := int64(highest)
			if agg == api.AggRange && i%2 == 0 {
				v = -highest
			}
			y, err := Add(x, v)
			if err != api.OK {
				t.Fatalf("aggregate %d: Add of item %d = %d", agg, i, err)
			}
			x = y
		}
		if !valid(x) || len(x.Marks) > limit(agg, 1, fullest) {
			t.Fatalf("%v is not valid", x)
		}
		n := map[int]int64{1: 65536, 2: 268435456, 3: 1099511627776, 4: 8192}[agg]
		asked(t, "all", x, whole(n, n, n))
		got, err := Add(x, 0)
		step(t, "Add behind the greatest capacity", got, err, api.ErrFull, api.Smooth{})
		checkAdvance(t, x, last)
	}
}

// TestManyMarks lets the values fall, so that a histogram needs many marks, though never more than Most.
func TestManyMarks(t *testing.T) {
	for _, c := range []struct{ agg, k, few int }{{api.AggCount, 1, 12}, {api.AggCount, finest, 300}, {api.AggSum, 2, 30}, {api.AggSum, finest, 700}, {api.AggSquares, 2, 45}, {api.AggSquares, finest, 900}, {api.AggRange, 1, 12}, {api.AggRange, finest, 500}} {
		s := newStream(t, c.agg, 10, c.k, fullest, 0)
		s.fast = true
		width := 8192.0
		for range 1300 {
			v := int64(width) / 2
			if c.agg == api.AggRange && len(s.items)%2 == 0 {
				v = -v
			}
			s.add(t, v)
			width *= 1 - 0.5/float64(c.k+1)
		}
		s.check(t)
		s.checkMarks(t)
		if len(s.x.Marks) < c.few {
			t.Errorf("aggregate %d, k %d: %d marks", c.agg, c.k, len(s.x.Marks))
		}
	}
}

// TestSmallStreams makes all short sequences of a few values and ticks.
func TestSmallStreams(t *testing.T) {
	var extend func(s stream, depth int)
	extend = func(s stream, depth int) {
		s.check(t)
		if depth == 0 {
			return
		}
		for _, v := range []int64{0, 1, 3} {
			next := stream{x: s.x, items: slices.Clone(s.items)}
			if next.add(t, v) {
				extend(next, depth-1)
			}
		}
		next := stream{x: s.x, items: s.items}
		next.advance(t, s.x.Now+1)
		extend(next, depth-1)
	}
	for agg := 1; agg <= 4; agg++ {
		for k := 1; k <= 2; k++ {
			extend(stream{x: empty(agg, 2, k, 5, 0, 0)}, 6)
		}
	}
}

// TestMarksThatNoItemsHave calls all functions with valid states whose marks fit no items, and holds the results to the conditions.
func TestMarksThatNoItemsHave(t *testing.T) {
	source := rand.New(rand.NewSource(19))
	states := validStates()
	set := setters()[7:]
	odd := 0
	for odd < 5000 {
		x := copied(states[source.Intn(len(states))])
		if len(x.Marks) < 2 || x.Marks[0].N > 100 {
			continue
		}
		for range 1 + source.Intn(4) {
			set[3+source.Intn(4)](&x.Marks[source.Intn(len(x.Marks)-1)], source.Int63n(9)-4)
		}
		if !valid(x) {
			continue
		}
		odd++
		checkAsk(t, x)
		checkAdvance(t, x, x.Now+source.Int63n(4))
		v := drawn(source, x.Agg, source.Intn(6))
		checkAdd(t, x, v)
		if y, err := Add(x, v); err == api.OK && (!valid(y) || Validate(y) != api.OK) {
			t.Fatalf("Add(%v, %d) = %v, which breaks %v", x, v, y, broken(y))
		}
	}
}

// call is a call with a state; results that the function does not have are zero.
type call func(x api.Smooth) (api.Smooth, api.Bounds, api.Errno)

// calls returns all calls with a state.
func calls() []call {
	all := []call{
		func(x api.Smooth) (api.Smooth, api.Bounds, api.Errno) { return api.Smooth{}, api.Bounds{}, Validate(x) },
		func(x api.Smooth) (api.Smooth, api.Bounds, api.Errno) {
			answer, err := Ask(x)
			return api.Smooth{}, answer, err
		},
	}
	for _, now := range []int64{5, 6, 7, 8, 9, last, last + 1, -1} {
		all = append(all, func(x api.Smooth) (api.Smooth, api.Bounds, api.Errno) {
			y, err := Advance(x, now)
			return y, api.Bounds{}, err
		})
	}
	for _, v := range []int64{-highest - 1, -1, 0, 1, 9, highest, highest + 1} {
		all = append(all, func(x api.Smooth) (api.Smooth, api.Bounds, api.Errno) {
			y, err := Add(x, v)
			return y, api.Bounds{}, err
		})
	}
	return all
}

// argumentStates returns valid states with a few marks, and some that are not valid.
func argumentStates() []api.Smooth {
	var list []api.Smooth
	for i, s := range validShapes() {
		list = append(list, s.state(3, 99, 1), s.state(3-int64(min(1, len(s.places)-1)), 99, i%2))
	}
	for _, states := range oneBroken() {
		for i := 0; i < len(states); i += 11 {
			list = append(list, states[i])
		}
	}
	for agg := 1; agg <= 4; agg++ {
		list = append(list, base(agg, 0), base(agg, 7), base(agg, -1))
	}
	return list
}

// TestArguments checks that the marks, and the memory before and behind them, stay as they are, and that this memory does not matter.
func TestArguments(t *testing.T) {
	for _, x := range argumentStates() {
		n := len(x.Marks)
		odd := []api.Mark{alike(9, 1, 5, 3), {Seq: 7, T: -4, N: most, S: 5}, alike(8, 3, 2, 1)}
		memory := slices.Concat(odd, x.Marks, odd, odd)
		before := slices.Clone(memory)
		for i, call := range calls() {
			want, answer, why := call(copied(x))
			for end := 3 + n; end <= len(memory); end++ {
				x.Marks = memory[3 : 3+n : end]
				got, b, err := call(x)
				if !same(got, want) || b != answer || err != why {
					t.Fatalf("call %d with %v = %v, %v, %d, not %v, %v, %d", i, x, got, b, err, want, answer, why)
				}
				if !slices.Equal(memory, before) {
					t.Fatalf("call %d with %v changed it, or what lies beside it: %v", i, x, memory)
				}
			}
		}
	}
}

// TestBranches checks that the histograms that were made from one do not disturb each other or the one that they came from.
func TestBranches(t *testing.T) {
	source := rand.New(rand.NewSource(20))
	for agg := 1; agg <= 4; agg++ {
		for _, k := range []int{1, 2, 9} {
			root := empty(agg, 20, k, 90, 0, 0)
			states, copies := []api.Smooth{root}, []api.Smooth{copied(root)}
			for range 1500 {
				from := states[source.Intn(len(states))]
				to, err := Add(from, drawn(source, agg, source.Intn(6)))
				if source.Intn(4) == 0 {
					to, err = Advance(from, from.Now+source.Int63n(4))
				}
				if err == api.OK {
					states, copies = append(states, to), append(copies, copied(to))
				}
			}
			for i, x := range states {
				if !same(x, copies[i]) {
					t.Fatalf("aggregate %d, k %d: histogram %d was %v and is %v", agg, k, i, copies[i], x)
				}
				if !valid(x) {
					t.Fatalf("aggregate %d, k %d: histogram %d is not valid: %v", agg, k, i, x)
				}
			}
		}
	}
}

// TestTwoOfOne makes several histograms from each one of a stream, by all calls.
func TestTwoOfOne(t *testing.T) {
	at := func(x api.Smooth, now int64) api.Smooth {
		x.Now = now
		return holding(x, leftAt(x.Marks, now, x.W)...)
	}
	for agg := 1; agg <= 4; agg++ {
		for k := 1; k <= 3; k++ {
			x := empty(agg, 30, k, 999, 0, 0)
			for n := range int64(60) {
				x = moved(t, x, n)
				origin := copied(x)
				stay, later := moved(t, x, n), moved(t, x, n+3)
				a, b, c, d := added(t, x, n%10), added(t, x, 9), added(t, later, 1), added(t, stay, 2, 3)
				e, f := added(t, later, 5), moved(t, a, n+7)
				first := included(origin, n%10)
				for i, p := range []struct{ got, want api.Smooth }{{x, origin}, {stay, origin}, {later, at(origin, n+3)}, {a, first}, {b, included(origin, 9)}, {c, included(at(origin, n+3), 1)}, {d, included(included(origin, 2), 3)}, {e, included(at(origin, n+3), 5)}, {f, at(first, n+7)}} {
					if !same(p.got, p.want) {
						t.Fatalf("aggregate %d, k %d, at tick %d: histogram %d is %v, not %v", agg, k, n, i, p.got, p.want)
					}
				}
				x = a
			}
		}
	}
}
