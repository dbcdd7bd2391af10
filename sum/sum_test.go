package sum

import (
	"math"
	"math/bits"
	"math/rand"
	"slices"
	"testing"

	"windowpane/api"
	"windowpane/count"
)

const (
	least   = math.MinInt64
	most    = math.MaxInt64
	last    = 1 << 24 // the last tick
	longest = 1 << 20 // the longest window
	fullest = 1 << 16 // the greatest capacity
	finest  = 64      // the greatest K
	highest = 1024    // the greatest Max
)

// bk returns the list of buckets with these ticks and levels in turn.
func bk(numbers ...int64) []api.Bucket {
	var list []api.Bucket
	for i := 0; i < len(numbers); i += 2 {
		list = append(list, api.Bucket{T: numbers[i], Level: int(numbers[i+1])})
	}
	return list
}

// shaped returns a list with these numbers of buckets of the levels from 0 on, all with the tick at.
func shaped(at int64, counts ...int) []api.Bucket {
	var list []api.Bucket
	for level := len(counts) - 1; level >= 0; level-- {
		for range counts[level] {
			list = append(list, api.Bucket{T: at, Level: level})
		}
	}
	return list
}

// state returns the state with these buckets, with 9 as the greatest value.
func state(w int64, k, size int, now int64, list ...api.Bucket) api.Sum {
	return api.Sum{W: w, K: k, Cap: size, Max: 9, Now: now, Buckets: list}
}

// upTo returns the state with another greatest value.
func upTo(high int, x api.Sum) api.Sum {
	x.Max = high
	return x
}

// holding returns the state with other buckets.
func holding(x api.Sum, list ...api.Bucket) api.Sum {
	x.Buckets = list
	return x
}

// same reports whether two states are equal; a nil list and an empty one are equivalent.
func same(a, b api.Sum) bool {
	return a.W == b.W && a.K == b.K && a.Cap == b.Cap && a.Max == b.Max && a.Now == b.Now && slices.Equal(a.Buckets, b.Buckets)
}

// copied returns the state with a list of its own.
func copied(x api.Sum) api.Sum { return holding(x, slices.Clone(x.Buckets)...) }

// inWindow, tick, window, fine, size and unit say which numbers are valid.
func inWindow(t, now, w int64) bool { return t >= 0 && now-w < t && t <= now }
func tick(n int64) bool             { return n > -1 && n < 16777217 }
func window(n int64) bool           { return n > 0 && n < 1048577 }
func fine(n int) bool               { return n > 0 && n < 65 }
func size(n int) bool               { return n > 0 && n < 65537 }
func unit(n int) bool               { return n > 0 && n < 1025 }

// having returns how many buckets of a list have a level.
func having(list []api.Bucket, level int) int {
	n := 0
	for _, b := range list {
		if b.Level == level {
			n++
		}
	}
	return n
}

// total adds up the sizes of a list with levels from 0 to 30.
func total(list []api.Bucket) int64 {
	sum := int64(0)
	for _, b := range list {
		sum += int64(math.Pow(2, float64(b.Level)))
	}
	return sum
}

// valid says which states are valid, bucket by bucket and level by level.
func valid(x api.Sum) bool {
	if !window(x.W) || !fine(x.K) || !size(x.Cap) || !unit(x.Max) || !tick(x.Now) {
		return false
	}
	list := x.Buckets
	for i, b := range list {
		if !inWindow(b.T, x.Now, x.W) || b.Level < 0 || b.Level > 30 || i > 0 && (list[i-1].T > b.T || list[i-1].Level < b.Level) {
			return false
		}
	}
	if len(list) == 0 {
		return true
	}
	for level := 0; level < list[0].Level; level++ {
		if n := having(list, level); n != x.K && n != x.K+1 {
			return false
		}
	}
	return having(list, list[0].Level) < x.K+2 && total(list) <= int64(x.Cap)
}

// code returns the error that stands for an invalid state, if it is one.
func code(ok bool) api.Errno {
	if ok {
		return api.OK
	}
	return api.ErrState
}

// inserted adds n unit items to a list, word by word: it searches for the two oldest buckets of each level.
func inserted(list []api.Bucket, k int, t, n int64) []api.Bucket {
	for range n {
		list = append(slices.Clone(list), api.Bucket{T: t})
		for level := 0; ; level++ {
			var at []int
			for i, b := range list {
				if b.Level == level {
					at = append(at, i)
				}
			}
			if len(at) < k+2 {
				break
			}
			newer := list[at[1]].T
			list = slices.Concat(list[:at[0]], []api.Bucket{{T: newer, Level: level + 1}}, list[at[0]+1:at[1]], list[at[1]+1:])
		}
	}
	return list
}

func whole(lo, est, hi int64) api.Bounds {
	return api.Bounds{Lo: api.Ratio{Num: lo, Den: 1}, Est: api.Ratio{Num: est, Den: 1}, Hi: api.Ratio{Num: hi, Den: 1}}
}

// between returns the ends and the estimate of the answer to a valid state.
func between(x api.Sum) (lo, est, hi int64) {
	if len(x.Buckets) == 0 {
		return 0, 0, 0
	}
	hi = total(x.Buckets)
	lo = hi - total(x.Buckets[:1]) + 1
	return lo, (lo + hi) / 2, hi
}

// edges returns the numbers around all limits.
func edges() []int64 {
	var list []int64
	for d := int64(-2); d <= 2; d++ {
		list = append(list, d, finest+d, 2*finest+d, highest+d, fullest+d, longest+d, last-longest+d, last+d, 1<<32+d, math.MaxInt32+d, math.MinInt32+d)
	}
	for d := range int64(3) {
		list = append(list, least+d, most-d, least+longest+d, most-longest-d)
	}
	return list
}

// checkAdvance compares Advance with what the chapter says.
func checkAdvance(t *testing.T, x api.Sum, now int64) {
	t.Helper()
	want, why := holding(x), code(valid(x))
	if why == api.OK && (now < x.Now || now > last) {
		why = api.ErrTime
	}
	want.Now = now
	for _, b := range x.Buckets {
		if inWindow(b.T, now, x.W) {
			want.Buckets = append(want.Buckets, b)
		}
	}
	if why != api.OK {
		want = api.Sum{}
	}
	if got, err := Advance(x, now); !same(got, want) || err != why {
		t.Fatalf("Advance(%v, %d) = %v, %d, not %v, %d", x, now, got, err, want, why)
	}
}

// checkAdd compares Add with what the chapter says.
func checkAdd(t *testing.T, x api.Sum, v int64) {
	t.Helper()
	want, why := api.Sum{}, code(valid(x))
	if why == api.OK && (v < 0 || v > int64(x.Max)) {
		why = api.ErrRange
	}
	if why == api.OK && v > int64(x.Cap)-total(x.Buckets) {
		why = api.ErrFull
	}
	if why == api.OK {
		want = holding(x, inserted(x.Buckets, x.K, x.Now, v)...)
	}
	if got, err := Add(x, v); !same(got, want) || err != why {
		t.Fatalf("Add(%v, %d) = %v, %d, not %v, %d", x, v, got, err, want, why)
	}
}

// checkAsk compares Ask with what the chapter says.
func checkAsk(t *testing.T, x api.Sum) {
	t.Helper()
	want, why := api.Bounds{}, code(valid(x))
	if why == api.OK {
		want = whole(between(x))
	}
	if got, err := Ask(x); got != want || err != why {
		t.Fatalf("Ask(%v) = %v, %d, not %v, %d", x, got, err, want, why)
	}
}

// step checks the result of a call.
func step(t *testing.T, name string, got api.Sum, err, why api.Errno, want api.Sum) {
	t.Helper()
	if err != why || !same(got, want) {
		t.Fatalf("%s = %v, %d, not %v, %d", name, got, err, want, why)
	}
}

// asked checks an answer.
func asked(t *testing.T, name string, x api.Sum, want api.Bounds) {
	t.Helper()
	if got, err := Ask(x); err != api.OK || got != want {
		t.Fatalf("%s: Ask(%v) = %v, %d, not %v", name, x, got, err, want)
	}
}

// added returns the state after these values.
func added(t *testing.T, x api.Sum, values ...int64) api.Sum {
	t.Helper()
	for _, v := range values {
		y, err := Add(x, v)
		if err != api.OK {
			t.Fatalf("Add(%v, %d) = %d", x, v, err)
		}
		x = y
	}
	return x
}

// moved returns the state at a later tick.
func moved(t *testing.T, x api.Sum, now int64) api.Sum {
	t.Helper()
	y, err := Advance(x, now)
	if err != api.OK {
		t.Fatalf("Advance(%v, %d) = %d", x, now, err)
	}
	return y
}

// checkNew compares New, and Validate of the empty histogram, with what the chapter says.
func checkNew(t *testing.T, w int64, k, cap, max int, now int64) api.Errno {
	t.Helper()
	x := api.Sum{W: w, K: k, Cap: cap, Max: max, Now: now}
	want, why := x, api.OK
	if !window(w) || !fine(k) || !size(cap) || !unit(max) || !tick(now) {
		want, why = api.Sum{}, api.ErrArg
	}
	if got, err := New(w, k, cap, max, now); !same(got, want) || err != why {
		t.Errorf("New(%d, %d, %d, %d, %d) = %v, %d", w, k, cap, max, now, got, err)
	}
	if err := Validate(x); err != code(why == api.OK) {
		t.Errorf("Validate(%v) = %d", x, err)
	}
	return why
}

func TestNew(t *testing.T) {
	wide := []int64{least, -1, 0, 1, 2, 5, longest - 1, longest, longest + 1, 1<<32 + 1, most}
	ticks := []int64{least, -last, -1, 0, 1, 7, last - 1, last, last + 1, 1 << 32, most}
	fines := []int{least, -1, 0, 1, 2, finest - 1, finest, finest + 1, 2 * finest, 1<<32 + 1, most}
	sizes := []int{least, -1, 0, 1, 2, fullest - 1, fullest, fullest + 1, 1<<32 + 1, most}
	highs := []int{least, -1, 0, 1, 2, highest - 1, highest, highest + 1, 1<<32 + 1, most}
	seen := map[api.Errno]int{}
	for _, w := range wide {
		for _, k := range fines {
			for _, n := range sizes {
				for _, high := range highs {
					for _, now := range ticks {
						seen[checkNew(t, w, k, n, high, now)]++
					}
				}
			}
		}
	}
	if seen[api.OK] < 1000 || seen[api.ErrArg] < 100000 {
		t.Errorf("the results are too much alike: %v", seen)
	}
}

// TestNewAtTheLimits writes the limits out, one by one and all together.
func TestNewAtTheLimits(t *testing.T) {
	for i, c := range []struct {
		w           int64
		k, cap, max int
		now         int64
		why         api.Errno
	}{
		{1, 1, 1, 1, 0, api.OK}, {1048576, 64, 65536, 1024, 16777216, api.OK}, {1048576, 1, 1, 1, 0, api.OK}, {1, 64, 1, 1, 0, api.OK}, {1, 1, 65536, 1, 0, api.OK}, {1, 1, 1, 1024, 0, api.OK}, {1, 1, 1, 1, 16777216, api.OK}, {10, 1, 100, 9, 0, api.OK}, {10, 1, 5, 1000, 0, api.OK},
		{0, 1, 1, 1, 0, api.ErrArg}, {1048577, 1, 1, 1, 0, api.ErrArg}, {1, 0, 1, 1, 0, api.ErrArg}, {1, 65, 1, 1, 0, api.ErrArg}, {1, 1, 0, 1, 0, api.ErrArg}, {1, 1, 65537, 1, 0, api.ErrArg}, {1, 1, 1, 0, 0, api.ErrArg}, {1, 1, 1, 1025, 0, api.ErrArg}, {1, 1, 1, 1, -1, api.ErrArg}, {1, 1, 1, 1, 16777217, api.ErrArg},
	} {
		x, err := New(c.w, c.k, c.cap, c.max, c.now)
		want := api.Sum{W: c.w, K: c.k, Cap: c.cap, Max: c.max, Now: c.now}
		if c.why != api.OK {
			want = api.Sum{}
		}
		if err != c.why || !same(x, want) {
			t.Errorf("case %d: New = %v, %d", i, x, err)
		}
		if err == api.OK {
			asked(t, "the empty histogram", x, whole(0, 0, 0))
		}
	}
}

// TestNewOfOneWrongNumber moves one argument over its limits.
func TestNewOfOneWrongNumber(t *testing.T) {
	for _, n := range edges() {
		checkNew(t, n, 2, 9, 4, 5)
		checkNew(t, 3, int(n), 9, 4, 5)
		checkNew(t, 3, 2, int(n), 4, 5)
		checkNew(t, 3, 2, 9, int(n), 5)
		checkNew(t, 3, 2, 9, 4, n)
	}
}

// greatest returns the list of 2^16 unit items of one tick for K = 1.
func greatest(at int64) []api.Bucket {
	return shaped(at, 2, 1, 1, 1, 1, 1, 1, 1, 1, 1, 1, 1, 1, 1, 1, 1)
}

// greatestFine returns the list of 2^16 unit items of one tick for K = 64: ten levels of 64 buckets stand for 65472 of them.
func greatestFine(at int64) []api.Bucket {
	return inserted(shaped(at, slices.Repeat([]int{64}, 10)...), finest, at, 64)
}

// validStates returns states at the limits.
func validStates() []api.Sum {
	return []api.Sum{
		// The empty histogram, with the least and the greatest parameters.
		state(3, 2, 9, 5), {W: 1, K: 1, Cap: 1, Max: 1, Buckets: []api.Bucket{}}, upTo(1, state(1, 1, 1, 0)), upTo(highest, state(longest, finest, fullest, last)), state(longest, 1, 1, 0), state(1, finest, 1, 0), state(1, 1, fullest, 0), upTo(highest, state(1, 1, 1, 0)), state(1, 1, 1, last),
		// One bucket, several, the first level with each number of them.
		state(3, 1, 9, 5, bk(5, 0)...), state(10, 1, 4, 5, bk(1, 1, 2, 0, 5, 0)...), state(10, 2, 9, 5, bk(1, 1, 2, 0, 5, 0)...), state(10, 1, 9, 5, bk(1, 1, 2, 1, 5, 0)...), state(3, 1, 9, 5, bk(3, 0, 5, 0)...), state(3, 4, 9, 5, shaped(4, 5)...), state(3, 4, 99, 5, shaped(4, 4, 5, 1)...), state(3, 4, 99, 5, shaped(4, 5, 4, 5)...),
		// A bucket of the first live tick, and at the tick Now; equal ticks.
		state(3, 1, 9, 5, bk(3, 0)...), state(3, 2, 9, 5, bk(3, 1, 3, 0, 3, 0)...), state(3, 2, 9, 5, bk(3, 1, 4, 0, 5, 0)...), state(3, 2, 9, 5, bk(5, 1, 5, 0, 5, 0)...), state(1, 1, 9, 5, bk(5, 2, 5, 1, 5, 0)...), state(1, 1, 1, 0, bk(0, 0)...), state(1, 1, 1, last, bk(last, 0)...), state(longest, 1, 2, 0, bk(0, 0, 0, 0)...), state(longest, 1, 3, last, bk(last-longest+1, 1, last, 0)...), state(longest, 1, 2, longest-1, bk(0, 0, longest-1, 0)...), state(longest, 1, 1, longest, bk(1, 0)...), state(4, 1, 1, 2, bk(0, 0)...),
		// Total is just below Cap, and Cap.
		state(3, 1, 5, 5, bk(4, 1, 4, 0, 5, 0)...), state(3, 1, 4, 5, bk(4, 1, 4, 0, 5, 0)...), state(3, 3, 5, 5, shaped(4, 4)...), state(3, 3, 4, 5, shaped(4, 4)...), state(3, 1, 1, 5, bk(5, 0)...), state(3, 1, 15, 5, shaped(4, 1, 1, 1, 1)...),
		// Max is less than Total, or greater than Cap.
		upTo(1, state(3, 1, 15, 5, shaped(4, 1, 1, 1, 1)...)), upTo(highest, state(3, 1, 1, 5, bk(5, 0)...)), upTo(2, state(3, 1, 1, 5, bk(5, 0)...)), upTo(highest, state(3, 1, 15, 5, shaped(4, 1, 1, 1)...)),
		// The greatest histograms: Total is 2^16, and one less.
		state(3, 1, fullest, 5, greatest(4)...), state(3, 1, fullest, 5, shaped(4, slices.Repeat([]int{1}, 16)...)...), upTo(highest, state(3, finest, fullest, 5, greatestFine(4)...)), upTo(1, state(3, finest, fullest, 5, greatestFine(4)[1:]...)),
	}
}

// invalidStates returns states that violate one condition each.
func invalidStates() []api.Sum {
	list := []api.Sum{
		{}, {W: 3}, {K: 1}, {Cap: 2}, {Max: 2}, {W: 3, K: 1, Cap: 2}, {W: 3, K: 1, Max: 4}, {W: 3, Cap: 2, Max: 4}, {K: 1, Cap: 2, Max: 4}, {K: 1, Cap: 2, Max: 4, Now: 5},
		// The list is not valid for K: the order, the levels, the number of buckets of a level.
		state(10, 1, 99, 5, bk(2, 0, 1, 0)...), state(10, 1, 99, 5, bk(2, 1, 1, 0)...), state(10, 1, 99, 5, bk(1, 0, 2, 1)...), state(10, 1, 99, 5, bk(1, 1, 2, 2, 3, 0)...), state(10, 1, 99, 5, bk(1, -1)...), state(10, 1, 99, 5, bk(1, 0, 2, -1)...), state(10, 1, 99, 5, bk(1, least)...), state(10, 1, fullest, 5, bk(1, 31)...), state(10, 1, fullest, 5, bk(1, 64)...), state(10, 1, fullest, 5, bk(1, most)...), state(10, 1, 99, 5, bk(1, 1)...), state(10, 1, 99, 5, bk(1, 2, 2, 0)...), state(10, 1, 99, 5, bk(1, 1, 2, 1)...), state(10, 2, 99, 5, bk(1, 1, 2, 0)...), state(10, 3, 99, 5, bk(1, 1, 2, 0, 5, 0)...),
		state(10, 1, 99, 5, shaped(5, 3)...), state(10, 4, 99, 5, shaped(5, 6)...), state(10, 4, 99, 5, shaped(5, 3, 1)...), state(10, 4, 99, 5, shaped(5, 6, 1)...), state(10, 4, 99, 5, shaped(5, 4, 6)...), state(10, 4, 99, 5, shaped(5, 4, 3, 1)...), state(10, 4, 99, 5, shaped(5, 0, 4)...), state(10, finest, fullest, 5, shaped(5, finest+2)...), state(10, finest, fullest, 5, shaped(5, finest-1, 1)...),
		// It is valid for a K that is out of range here, but not for buckets.
		state(10, finest+1, fullest, 5, shaped(5, finest+1, 1)...), state(10, 2*finest, fullest, 5, shaped(5, 2*finest, 1)...), state(10, 2*finest, fullest, 5),
		// A bucket is past Now.
		state(3, 1, 9, 5, bk(6, 0)...), state(3, 1, 9, 5, bk(5, 0, 6, 0)...), state(3, 1, 9, 5, bk(4, 1, 5, 0, 6, 0)...), state(3, 1, 9, 0, bk(1, 0)...), state(longest, 1, 9, last-1, bk(last, 0)...), state(longest, 1, 9, last, bk(last+1, 0)...), state(3, 1, 9, 5, bk(most, 0)...), state(3, 3, 9, 5, bk(4, 0, 5, 0, 5, 0, 6, 0)...),
		// A bucket is not live any more.
		state(3, 1, 9, 5, bk(2, 0)...), state(3, 1, 9, 5, bk(2, 0, 3, 0)...), state(3, 1, 9, 5, bk(0, 1, 4, 0, 5, 0)...), state(3, 1, 9, 5, bk(2, 1, 2, 0, 2, 0)...), state(1, 1, 9, 5, bk(4, 0)...), state(1, 1, 9, 5, bk(4, 0, 5, 0)...), state(4, 1, 4, 5, bk(1, 1, 2, 0, 5, 0)...), state(longest, 1, 9, longest, bk(0, 0)...), state(longest, 1, 9, last, bk(last-longest, 0, last, 0)...), state(longest, 1, 9, last, bk(last-longest, 1, last-longest+1, 0)...),
		// A tick is negative.
		state(3, 1, 9, 0, bk(-1, 0)...), state(longest, 1, 9, 5, bk(-1, 0)...), state(longest, 1, 9, 5, bk(-1, 0, 0, 0)...), state(3, 1, 9, 5, bk(least, 0)...), state(longest, 1, 9, last, bk(least, 0, last, 0)...),
		// Total is greater than Cap, whatever Max is.
		state(3, 1, 1, 5, bk(5, 0, 5, 0)...), upTo(highest, state(3, 1, 1, 5, bk(5, 0, 5, 0)...)), upTo(1, state(3, 1, 1, 5, bk(5, 0, 5, 0)...)), state(10, 1, 3, 5, bk(1, 1, 2, 0, 5, 0)...), state(3, 3, 3, 5, shaped(4, 4)...), state(3, 1, 14, 5, shaped(4, 1, 1, 1, 1)...), state(3, 1, 1, 5, shaped(4, 1, 1, 1, 1)...), state(3, 1, fullest-1, 5, greatest(4)...), state(3, 1, fullest, 5, inserted(greatest(4), 1, 5, 1)...), state(3, finest, fullest, 5, inserted(greatestFine(4), finest, 5, 1)...), state(3, finest, fullest-1, 5, greatestFine(4)...), state(3, 1, fullest, 5, shaped(5, slices.Repeat([]int{1}, 31)...)...), state(3, finest, fullest, 5, shaped(5, slices.Repeat([]int{finest + 1}, 31)...)...),
	}
	// A parameter is out of range.
	for _, buckets := range [][]api.Bucket{nil, bk(5, 0), bk(4, 1, 5, 0)} {
		for _, n := range []int64{0, -1, least, most, 1<<32 + 1, last + 1} {
			list = append(list, state(n, 1, 9, 5, buckets...), state(3, int(n), 9, 5, buckets...), state(3, 1, int(n), 5, buckets...), upTo(int(n), state(3, 1, 9, 5, buckets...)))
		}
		list = append(list, state(longest+1, 1, 9, 5, buckets...), state(3, finest+1, 9, 5, buckets...), state(3, 1, fullest+1, 5, buckets...), upTo(highest+1, state(3, 1, 9, 5, buckets...)), upTo(highest+1, state(3, 1, fullest, 5, buckets...)))
		for _, n := range []int64{-1, least, most, 1<<32 + 5, last + 1} {
			list = append(list, state(3, 1, 9, n, buckets...))
		}
	}
	return append(list, state(3, 1, 9, last+1, bk(last, 0)...), state(3, 1, 9, last+1, bk(last+1, 0)...), state(3, 1, 9, -1, bk(-1, 0)...))
}

func TestValidate(t *testing.T) {
	for i, x := range validStates() {
		if err := Validate(x); err != api.OK || !valid(x) {
			t.Errorf("valid state %d: Validate(%v) = %d", i, x, err)
		}
	}
	for i, x := range invalidStates() {
		if err := Validate(x); err != api.ErrState || valid(x) {
			t.Errorf("invalid state %d: Validate(%v) = %d", i, x, err)
		}
	}
}

// TestStateFirst checks that an invalid state is answered with ErrState, whatever the other arguments are.
func TestStateFirst(t *testing.T) {
	for i, x := range invalidStates() {
		for _, n := range []int64{x.Now, x.Now - 1, x.Now + 1, 0, 1, 5, 6, 9, 10, highest, highest + 1, int64(x.Max), int64(x.Cap), last, last + 1, -1, least, most} {
			if got, err := Advance(x, n); err != api.ErrState || !same(got, api.Sum{}) {
				t.Errorf("invalid state %d: Advance to %d = %v, %d", i, n, got, err)
			}
			if got, err := Add(x, n); err != api.ErrState || !same(got, api.Sum{}) {
				t.Errorf("invalid state %d: Add of %d = %v, %d", i, n, got, err)
			}
		}
		if got, err := Ask(x); err != api.ErrState || got != (api.Bounds{}) {
			t.Errorf("invalid state %d: Ask = %v, %d", i, got, err)
		}
	}
}

// smallStates calls try with all states of these sizes and ticks, with up to 3 buckets.
func smallStates(try func(x api.Sum)) {
	var extend func(x api.Sum)
	extend = func(x api.Sum) {
		try(x)
		if len(x.Buckets) == 3 {
			return
		}
		for t := int64(0); t <= 3; t++ {
			for level := range 3 {
				y := copied(x)
				y.Buckets = append(y.Buckets, api.Bucket{T: t, Level: level})
				extend(y)
			}
		}
	}
	for _, w := range []int64{0, 1, 2, 4} {
		for k := 0; k <= 2; k++ {
			for n := 0; n <= 5; n++ {
				for _, high := range []int{0, 1, 3} {
					for _, now := range []int64{-1, 0, 2} {
						extend(upTo(high, state(w, k, n, now)))
					}
				}
			}
		}
	}
}

func TestAllSmallStates(t *testing.T) {
	seen := map[api.Errno]int{}
	smallStates(func(x api.Sum) {
		why := code(valid(x))
		seen[why]++
		if err := Validate(x); err != why {
			t.Fatalf("Validate(%v) = %d", x, err)
		}
		checkAsk(t, x)
		checkAdd(t, x, 1)
		if why != api.OK {
			return
		}
		for n := int64(-1); n <= 8; n++ {
			checkAdvance(t, x, n)
			checkAdd(t, x, n)
		}
	})
	if seen[api.OK] < 500 || seen[api.ErrState] < 100000 {
		t.Errorf("the results are too much alike: %v", seen)
	}
}

func TestValidateAroundTheLimits(t *testing.T) {
	var list []api.Sum
	for _, n := range edges() {
		for _, now := range edges() {
			for _, at := range edges() {
				list = append(list, state(n, 1, 3, now, bk(at, 0)...))
			}
		}
		list = append(list, state(3, int(n), 9, 5, bk(4, 0, 5, 0)...), state(3, 1, int(n), 5, bk(4, 0, 5, 0)...), upTo(int(n), state(3, 1, 9, 5, bk(4, 0, 5, 0)...)), state(3, 1, fullest, 5, bk(4, n)...), state(3, 1, fullest, 5, bk(4, n, 5, 0)...), state(3, 1, int(n), 5, greatest(5)...))
	}
	for _, x := range list {
		if err := Validate(x); err != code(valid(x)) {
			t.Errorf("Validate(%v) = %d", x, err)
		}
	}
}

func TestExamples(t *testing.T) {
	empty, err := New(10, 1, 100, 9, 0)
	step(t, "New", empty, err, api.OK, api.Sum{W: 10, K: 1, Cap: 100, Max: 9})
	asked(t, "nothing", empty, whole(0, 0, 0))
	x, err := Add(empty, 5)
	step(t, "Add of 5", x, err, api.OK, state(10, 1, 100, 0, bk(0, 1, 0, 1, 0, 0)...))
	asked(t, "5", x, whole(4, 4, 5))
	y := empty
	for i, want := range [][]api.Bucket{bk(0, 0), bk(0, 0, 0, 0), bk(0, 1, 0, 0), bk(0, 1, 0, 0, 0, 0), bk(0, 1, 0, 1, 0, 0)} {
		y, err = Add(y, 1)
		step(t, "Add of 1", y, err, api.OK, state(10, 1, 100, 0, want...))
		one, err := Add(empty, int64(i+1))
		step(t, "Add of several", one, err, api.OK, y)
	}
}

func TestAdvance(t *testing.T) {
	x := state(3, 1, 9, 5, bk(3, 2, 4, 1, 4, 1, 5, 0)...)
	two := state(10, 2, 99, 10, bk(2, 2, 3, 1, 3, 1, 5, 0, 8, 0, 10, 0)...)
	for _, c := range []struct {
		x    api.Sum
		now  int64
		from int // the first bucket that stays
	}{
		// By nothing, by one tick, by a window and by more, to the last tick.
		{x, 5, 0}, {x, 6, 1}, {x, 7, 3}, {x, 8, 4}, {x, 9, 4}, {x, last, 4},
		// Nothing, some buckets, a whole level and all leave.
		{two, 10, 0}, {two, 11, 0}, {two, 12, 1}, {two, 13, 3}, {two, 14, 3}, {two, 15, 4}, {two, 17, 4}, {two, 18, 5}, {two, 19, 5}, {two, 20, 6}, {two, 21, 6}, {two, last, 6},
		// Nothing has to leave the empty histogram.
		{state(3, 1, 1, 0), 0, 0}, {state(3, 1, 1, 0), 1, 0}, {state(3, 1, 1, 0), 3, 0}, {state(3, 1, 1, 0), last, 0}, {state(3, 1, 1, last), last, 0}, {upTo(highest, state(longest, finest, fullest, 5)), last, 0},
		// A bucket is live for the last tick, and has just left.
		{state(3, 1, 1, 5, bk(5, 0)...), 7, 0}, {state(3, 1, 1, 5, bk(5, 0)...), 8, 1}, {state(3, 1, 1, 0, bk(0, 0)...), 2, 0}, {state(3, 1, 1, 0, bk(0, 0)...), 3, 1}, {state(3, 1, 1, 5, bk(3, 0)...), 5, 0}, {state(3, 1, 1, 5, bk(3, 0)...), 6, 1},
		// Equal ticks leave together: a value never leaves in parts.
		{state(3, 2, 9, 5, bk(3, 1, 3, 0, 3, 0, 5, 0)...), 5, 0}, {state(3, 2, 9, 5, bk(3, 1, 3, 0, 3, 0, 5, 0)...), 6, 3}, {upTo(1, state(3, 1, 9, 5, bk(3, 2, 3, 1, 3, 0)...)), 6, 3},
		// A window of 1 and the longest one, with the first and the last tick.
		{state(1, 1, 2, 5, bk(5, 0, 5, 0)...), 5, 0}, {state(1, 1, 2, 5, bk(5, 0, 5, 0)...), 6, 2}, {state(1, 1, 1, last-1, bk(last-1, 0)...), last, 1}, {state(1, 1, 1, last, bk(last, 0)...), last, 0}, {state(longest, 1, 2, 0, bk(0, 0, 0, 0)...), longest - 1, 0}, {state(longest, 1, 2, 0, bk(0, 0, 0, 0)...), longest, 2}, {state(longest, 1, 2, 1, bk(0, 0, 1, 0)...), longest, 1}, {state(longest, 1, 2, last-longest+1, bk(last-longest, 0, last-longest+1, 0)...), last, 1}, {state(longest, 1, 1, 0, bk(0, 0)...), last, 1},
		// The greatest histograms.
		{upTo(highest, state(2, 1, fullest, 9, greatest(8)...)), 9, 0}, {state(2, 1, fullest, 9, greatest(8)...), 10, 17}, {state(2, finest, fullest, 9, greatestFine(9)...), 10, 0}, {state(2, finest, fullest, 9, greatestFine(9)...), 11, len(greatestFine(9))},
	} {
		want := holding(c.x, c.x.Buckets[c.from:]...)
		want.Now = c.now
		got, err := Advance(c.x, c.now)
		if err != api.OK || !same(got, want) {
			t.Errorf("Advance(%v, %d) = %v, %d", c.x, c.now, got, err)
		}
		checkAdvance(t, c.x, c.now)
		checkAsk(t, got)
		checkAdd(t, got, int64(got.Max))
	}
}

func TestAdvanceErrors(t *testing.T) {
	for _, x := range validStates() {
		for _, now := range edges() {
			checkAdvance(t, x, now)
		}
		for _, now := range []int64{x.Now - 1, -1, least, least + x.Now, last + 1, last + 2, most, 1<<32 + x.Now} {
			if got, err := Advance(x, now); err != api.ErrTime || !same(got, api.Sum{}) {
				t.Errorf("Advance(%v, %d) = %v, %d", x, now, got, err)
			}
		}
	}
}

func TestAdd(t *testing.T) {
	for _, c := range []struct {
		x    api.Sum
		v    int64
		want []api.Bucket
	}{
		// Of 0: nothing changes, in the empty histogram, in one with buckets, and in a full one.
		{state(3, 1, 9, 5), 0, nil}, {api.Sum{W: 3, K: 2, Cap: 2, Max: 1, Now: 5, Buckets: []api.Bucket{}}, 0, nil}, {state(3, 1, 9, 5, bk(3, 0, 4, 0)...), 0, bk(3, 0, 4, 0)}, {state(3, 1, 2, 5, bk(3, 0, 5, 0)...), 0, bk(3, 0, 5, 0)}, {state(1, finest, fullest, last, greatestFine(last)...), 0, greatestFine(last)},
		// Of 1, to the empty histogram and to others: no level is merged, one is, several are.
		{state(3, 1, 9, 5), 1, bk(5, 0)}, {upTo(1, state(1, 1, 1, 0)), 1, bk(0, 0)}, {upTo(highest, state(longest, finest, fullest, last)), 1, bk(last, 0)}, {state(3, 1, 9, 5, bk(4, 0)...), 1, bk(4, 0, 5, 0)}, {state(3, 1, 9, 5, bk(3, 1, 4, 0)...), 1, bk(3, 1, 4, 0, 5, 0)}, {state(3, 2, 9, 5, bk(3, 0, 4, 0)...), 1, bk(3, 0, 4, 0, 5, 0)},
		{state(3, 1, 9, 5, bk(3, 0, 4, 0)...), 1, bk(4, 1, 5, 0)}, {state(3, 1, 9, 5, bk(3, 1, 4, 0, 4, 0)...), 1, bk(3, 1, 4, 1, 5, 0)}, {state(3, 2, 9, 5, bk(3, 0, 4, 0, 5, 0)...), 1, bk(4, 1, 5, 0, 5, 0)}, {state(9, 3, 9, 9, bk(3, 0, 5, 0, 6, 0, 7, 0)...), 1, bk(5, 1, 6, 0, 7, 0, 9, 0)},
		{state(9, 1, 9, 9, bk(3, 1, 4, 1, 5, 0, 6, 0)...), 1, bk(4, 2, 6, 1, 9, 0)}, {state(9, 1, 99, 9, bk(1, 2, 2, 2, 3, 1, 4, 1, 5, 0, 6, 0)...), 1, bk(2, 3, 4, 2, 6, 1, 9, 0)}, {state(9, 2, 99, 9, bk(1, 1, 2, 1, 3, 1, 4, 0, 5, 0, 6, 0)...), 1, bk(2, 2, 3, 1, 5, 1, 6, 0, 9, 0)},
		// Of several: no level is merged, one is, several are, a level more than once.
		{state(3, 4, 9, 5), 5, shaped(5, 5)}, {state(3, 2, 9, 5, bk(3, 0)...), 2, bk(3, 0, 5, 0, 5, 0)}, {upTo(50, state(3, finest, 99, 5, shaped(4, 15)...)), 50, slices.Concat(shaped(4, 15), shaped(5, 50))},
		{state(3, 1, 9, 5, bk(4, 0)...), 2, bk(5, 1, 5, 0)}, {state(3, 1, 9, 5, bk(3, 0, 4, 0)...), 2, bk(4, 1, 5, 0, 5, 0)}, {state(3, 2, 9, 5, bk(3, 0, 4, 0)...), 2, bk(4, 1, 5, 0, 5, 0)}, {state(3, 2, 9, 5, bk(3, 0, 4, 0)...), 4, bk(4, 1, 5, 1, 5, 0, 5, 0)},
		{state(3, 1, 9, 5), 7, shaped(5, 1, 1, 1)}, {state(3, 1, 9, 5), 9, shaped(5, 1, 2, 1)}, {state(9, 1, 9, 9, bk(3, 1, 4, 1, 5, 0)...), 2, bk(4, 2, 9, 1, 9, 0)}, {state(9, 1, 9, 9, bk(3, 1, 4, 1, 5, 0)...), 4, bk(4, 2, 9, 1, 9, 1, 9, 0)}, {state(9, 1, 99, 9, bk(1, 2, 2, 2, 3, 1, 4, 1, 5, 0, 6, 0)...), 6, bk(2, 3, 4, 2, 9, 2, 9, 1, 9, 0, 9, 0)}, {state(9, 2, 20, 9, bk(3, 1, 4, 0, 5, 0)...), 7, bk(5, 2, 9, 1, 9, 1, 9, 0, 9, 0, 9, 0)},
		// Of Max, which is 9 above, and of one less.
		{upTo(1, state(3, 1, 9, 5, bk(4, 0)...)), 1, bk(4, 0, 5, 0)}, {upTo(2, state(3, 1, 9, 5, bk(4, 0)...)), 1, bk(4, 0, 5, 0)}, {upTo(4, state(3, 1, 9, 5)), 4, shaped(5, 2, 1)}, {upTo(4, state(3, 1, 9, 5)), 3, shaped(5, 1, 1)}, {upTo(highest, state(3, 1, fullest, 5)), highest, shaped(5, 2, 1, 1, 1, 1, 1, 1, 1, 1, 1)}, {upTo(highest, state(3, 1, fullest, 5)), highest - 1, shaped(5, 1, 1, 1, 1, 1, 1, 1, 1, 1, 1)}, {upTo(highest, state(3, finest, fullest, 5)), highest, shaped(5, 64, 64, 64, 64, 4)},
		// The histogram is then full to Cap, or to one less; Max may be greater than Cap.
		{state(3, 1, 5, 5, bk(4, 1, 4, 0, 5, 0)...), 1, bk(4, 1, 5, 1, 5, 0)}, {state(3, 1, 6, 5, bk(4, 1, 4, 0, 5, 0)...), 1, bk(4, 1, 5, 1, 5, 0)}, {state(3, 1, 2, 5, bk(3, 0)...), 1, bk(3, 0, 5, 0)}, {state(10, 1, 5, 0), 5, bk(0, 1, 0, 1, 0, 0)}, {state(10, 1, 6, 0), 5, bk(0, 1, 0, 1, 0, 0)}, {upTo(highest, state(10, 1, 5, 0)), 5, bk(0, 1, 0, 1, 0, 0)}, {upTo(highest, state(10, 1, 1, 0)), 1, bk(0, 0)}, {upTo(highest, state(3, 2, 7, 5, bk(3, 0, 3, 0)...)), 5, bk(3, 1, 5, 1, 5, 0, 5, 0, 5, 0)}, {upTo(highest, state(3, 1, 1024, 5)), 1024, shaped(5, 2, 1, 1, 1, 1, 1, 1, 1, 1, 1)},
		{upTo(highest, state(3, 1, fullest, 5, shaped(5, slices.Repeat([]int{1}, 16)...)...)), 1, greatest(5)},
	} {
		if got, err := Add(c.x, c.v); err != api.OK || !same(got, holding(c.x, c.want...)) {
			t.Errorf("Add(%v, %d) = %v, %d, not %v", c.x, c.v, got, err, c.want)
		}
		checkAdd(t, c.x, c.v)
	}
}

// TestAddErrors adds values that a histogram has no room for, or that are out of range, which is looked at first.
func TestAddErrors(t *testing.T) {
	for _, x := range validStates() {
		for _, high := range []int{1, 2, 9, 500, highest} {
			x := upTo(high, x)
			for _, v := range []int64{-1, -2, -highest, least, least + 1, int64(high) + 1, highest + 1, fullest, 1 << 32, 1<<32 + 1, most - 1, most, most - total(x.Buckets) + 1, -total(x.Buckets) - 1} {
				if got, err := Add(x, v); err != api.ErrRange || !same(got, api.Sum{}) {
					t.Errorf("Add(%v, %d) = %v, %d", x, v, got, err)
				}
			}
			room := int64(x.Cap) - total(x.Buckets)
			for _, v := range []int64{room + 1, room + 2, int64(high)} {
				if v <= room || v > int64(high) {
					continue
				}
				if got, err := Add(x, v); err != api.ErrFull || !same(got, api.Sum{}) {
					t.Errorf("Add(%v, %d) = %v, %d", x, v, got, err)
				}
			}
			for _, v := range []int64{0, 1, 2, room - 1, room, room + 1, int64(high) - 1, int64(high)} {
				checkAdd(t, x, v)
			}
		}
	}
}

// TestFull adds to full histograms, which still take 0, answer and move.
func TestFull(t *testing.T) {
	for _, x := range []api.Sum{upTo(1, state(3, 1, 1, 5, bk(5, 0)...)), state(3, 1, 1, 5, bk(3, 0)...), upTo(highest, state(1, finest, 1, 0, bk(0, 0)...)), state(3, 1, 2, 5, bk(3, 0, 5, 0)...), state(3, 1, 3, 5, bk(3, 1, 5, 0)...), state(3, 1, 4, 5, bk(4, 1, 4, 0, 5, 0)...), state(3, 3, 4, 5, shaped(4, 4)...), upTo(highest, state(3, 1, fullest, 5, greatest(4)...)), state(3, finest, fullest, 5, greatestFine(4)...), state(longest, 1, 1, last, bk(last-longest+1, 0)...)} {
		high := int64(x.Max)
		for _, v := range []int64{1, high/2 + 1, high} {
			got, err := Add(x, v)
			step(t, "Add to a full histogram", got, err, api.ErrFull, api.Sum{})
		}
		for _, v := range []int64{-1, high + 1, least, most} {
			got, err := Add(x, v)
			step(t, "Add of a wrong value to a full histogram", got, err, api.ErrRange, api.Sum{})
		}
		got, err := Add(x, 0)
		step(t, "Add of 0 to a full histogram", got, err, api.OK, x)
		checkAsk(t, x)
		checkAdvance(t, x, x.Now)
		checkAdvance(t, x, last)
		// With one unit item more of room, it takes one.
		if x.Cap++; x.Cap <= fullest {
			checkAdd(t, x, 1)
			checkAdd(t, x, 2)
			added(t, x, 1)
		}
	}
}

// TestFullOfExpiredItems fills a histogram whose first bucket has unit items that are no longer live but still count.
func TestFullOfExpiredItems(t *testing.T) {
	x, _ := New(10, 1, 10, 9, 0)
	x = added(t, moved(t, added(t, x, 3), 1), 7)
	full := bk(1, 2, 1, 1, 1, 1, 1, 0, 1, 0)
	step(t, "3 and 7", x, api.OK, api.OK, state(10, 1, 10, 1, full...))
	// The 3 has left, but nobody knows.
	x = moved(t, x, 10)
	step(t, "Advance to 10", x, api.OK, api.OK, state(10, 1, 10, 10, full...))
	asked(t, "3 and 7", x, whole(7, 8, 10))
	y, err := Add(x, 1)
	step(t, "Add at tick 10", y, err, api.ErrFull, api.Sum{})
	x = moved(t, x, 11)
	asked(t, "nothing", x, whole(0, 0, 0))
	x = added(t, x, 9)
	y, err = Add(x, 2)
	step(t, "Add at tick 11", y, err, api.ErrFull, api.Sum{})
	asked(t, "9 and 1", added(t, x, 1), whole(7, 8, 10))
}

func TestAsk(t *testing.T) {
	for _, c := range []struct {
		list []api.Bucket
		k    int
		want api.Bounds
	}{
		{nil, 1, whole(0, 0, 0)}, {bk(), finest, whole(0, 0, 0)}, {bk(5, 0), 1, whole(1, 1, 1)}, {bk(1, 0, 5, 0), 1, whole(2, 2, 2)}, {shaped(5, 65), 64, whole(65, 65, 65)},
		{bk(1, 1, 5, 0), 1, whole(2, 2, 3)}, {bk(1, 1, 2, 0, 3, 0), 1, whole(3, 3, 4)}, {bk(1, 1, 2, 1, 5, 0), 1, whole(4, 4, 5)}, {bk(0, 2, 1, 1, 5, 0), 1, whole(4, 5, 7)}, {shaped(5, 1, 1, 1, 1), 1, whole(8, 11, 15)}, {shaped(5, 2, 2, 1), 2, whole(7, 8, 10)}, {shaped(5, 64, 1), 64, whole(65, 65, 66)},
	} {
		for _, w := range []int64{6, 7, longest} {
			for _, high := range []int{1, 9, highest} {
				asked(t, "a list", upTo(high, state(w, c.k, 100, 5, c.list...)), c.want)
			}
		}
	}
	asked(t, "the greatest list", state(1, 1, fullest, 0, greatest(0)...), whole(32769, 49152, 65536))
	asked(t, "the greatest fine list", state(1, finest, fullest, 0, greatestFine(0)...), whole(65025, 65280, 65536))
	for _, x := range validStates() {
		checkAsk(t, x)
	}
}

// sameCount checks that a histogram of sums has the buckets and the answer of one of counts.
func sameCount(t *testing.T, x api.Sum, c api.Count) {
	t.Helper()
	got, err := Ask(x)
	want, why := count.Ask(c)
	if x.W != c.W || x.K != c.K || x.Cap != c.Cap || x.Now != c.Now || !slices.Equal(x.Buckets, c.Buckets) || got != want || err != why {
		t.Fatalf("%v answers %v, %d, and %v answers %v, %d", x, got, err, c, want, why)
	}
}

// TestOnes holds a sequence of values 1 against the buckets of chapter 11.
func TestOnes(t *testing.T) {
	source := rand.New(rand.NewSource(14))
	seen := map[api.Errno]int{}
	for range 60 {
		w, k, size := 1+source.Int63n(30), []int{1, 2, 3, 17, finest}[source.Intn(5)], 1+source.Intn(150)
		x, _ := New(w, k, size, 1+source.Intn(highest), 0)
		c, _ := count.New(w, k, size, 0)
		for range 400 {
			if source.Intn(4) == 0 {
				now := x.Now + source.Int63n(5)
				c, _ = count.Advance(c, now)
				x = moved(t, x, now)
			}
			more, why := count.Add(c)
			y, err := Add(x, 1)
			if err != why {
				t.Fatalf("Add(%v, 1) = %d, but %d for a count", x, err, why)
			}
			if seen[err]++; err == api.OK {
				x, c = y, more
			}
			sameCount(t, x, c)
		}
	}
	if seen[api.OK] < 5000 || seen[api.ErrFull] < 1000 {
		t.Errorf("the results are too much alike: %v", seen)
	}
}

// TestUnits holds values of all sizes against as many unit items of chapter 11, added at the same tick.
func TestUnits(t *testing.T) {
	source := rand.New(rand.NewSource(15))
	for _, k := range []int{1, 2, 5, finest} {
		x, _ := New(20, k, fullest, highest, 0)
		c, _ := count.New(20, k, fullest, 0)
		for now := range int64(60) {
			c, _ = count.Advance(c, now)
			x = moved(t, x, now)
			v := source.Int63n([]int64{2, 10, 100, highest + 1}[source.Intn(4)])
			x = added(t, x, v)
			for range v {
				c, _ = count.Add(c)
			}
			sameCount(t, x, c)
		}
	}
}

// TestParts holds a value against its parts, added at the same tick.
func TestParts(t *testing.T) {
	for k := 1; k <= 4; k++ {
		for before := range int64(25) {
			x := upTo(40, state(5, k, 100, 9, inserted(nil, k, 8, before)...))
			for v := range int64(26) {
				all := added(t, x, v)
				for part := range v + 1 {
					step(t, "two parts", added(t, x, part, v-part), api.OK, api.OK, all)
					step(t, "three parts", added(t, x, part/2, v-part, part-part/2), api.OK, api.OK, all)
				}
				step(t, "all ones", added(t, x, slices.Repeat([]int64{1}, int(v))...), api.OK, api.OK, all)
				step(t, "a part of 0", added(t, x, 0, v, 0), api.OK, api.OK, all)
			}
		}
	}
	x := upTo(highest, state(5, finest, fullest, 9, greatestFine(8)[40:]...))
	for v := int64(highest); v > 500; v -= 97 {
		step(t, "two great parts", added(t, x, v-500, 500), api.OK, api.OK, added(t, x, v/2, v-v/2))
	}
}

// stream is a histogram with all values that were added, and their ticks.
type stream struct {
	x     api.Sum
	items []api.Item
}

// newStream returns an empty stream with these parameters.
func newStream(t *testing.T, w int64, k, size, high int, now int64) *stream {
	t.Helper()
	x, err := New(w, k, size, high, now)
	if err != api.OK {
		t.Fatalf("New(%d, %d, %d, %d, %d) = %d", w, k, size, high, now, err)
	}
	return &stream{x: x}
}

// live returns the sum of the live values.
func (s *stream) live() int64 {
	n := int64(0)
	for _, item := range s.items {
		if inWindow(item.T, s.x.Now, s.x.W) {
			n += item.V
		}
	}
	return n
}

// check holds the histogram against its items.
func (s *stream) check(t *testing.T) {
	t.Helper()
	if Validate(s.x) != api.OK || !valid(s.x) {
		t.Fatalf("%v is not valid", s.x)
	}
	b, err := Ask(s.x)
	lo, hi, n := b.Lo.Num, b.Hi.Num, s.live()
	if err != api.OK || b.Lo.Den != 1 || b.Hi.Den != 1 || n < lo || n > hi {
		t.Fatalf("with live values of %d, Ask(%v) = %v, %d", n, s.x, b, err)
	}
	if int64(s.x.K)*(hi-lo) > lo || hi > int64(s.x.Cap) {
		t.Fatalf("the answer of %v is too wide: %v", s.x, b)
	}
	if size := (s.x.K + 1) * bits.Len(uint(s.x.Cap)); len(s.x.Buckets) > size {
		t.Fatalf("%v has more than %d buckets", s.x, size)
	}
}

// add adds a value, if the histogram takes it, and holds an error against the live values.
func (s *stream) add(t *testing.T, v int64) bool {
	t.Helper()
	checkAdd(t, s.x, v)
	n, k, size := s.live(), int64(s.x.K), int64(s.x.Cap)
	y, err := Add(s.x, v)
	if err == api.OK {
		if n+v > size {
			t.Fatalf("Add(%v, %d) takes a value beside live ones of %d", s.x, v, n)
		}
		s.x, s.items = y, append(s.items, api.Item{T: s.x.Now, V: v})
		return true
	}
	// Total is at most the (1 + 1 / K)-fold sum of the live values.
	if err != api.ErrFull || n*(k+1) <= (size-v)*k {
		t.Fatalf("Add(%v, %d) = %d, with live values of %d", s.x, v, err, n)
	}
	return false
}

func (s *stream) advance(t *testing.T, now int64) {
	t.Helper()
	checkAdvance(t, s.x, now)
	s.x = moved(t, s.x, now)
}

// TestStreams adds values and moves the clock at random.
func TestStreams(t *testing.T) {
	source := rand.New(rand.NewSource(12))
	seen := map[bool]int{}
	for range 200 {
		w := 1 + source.Int63n(40)
		k := []int{1, 2, 3, 5, 17, finest}[source.Intn(6)]
		start := []int64{0, 0, source.Int63n(100), last - 300}[source.Intn(4)]
		high := 1 + source.Intn([]int{1, 5, 30, 300}[source.Intn(4)])
		s := newStream(t, w, k, 1+source.Intn(30*high), high, start)
		for range 200 {
			switch source.Intn(3) {
			case 0:
				step := max(0, source.Int63n(6)-3)
				if source.Intn(20) == 0 {
					step = w - 2 + source.Int63n(4)
				}
				s.advance(t, min(last, s.x.Now+max(0, step)))
			default:
				seen[s.add(t, source.Int63n(int64(high)+1))]++
			}
			s.check(t)
		}
	}
	if seen[true] < 10000 || seen[false] < 1000 {
		t.Errorf("the results are too much alike: %v", seen)
	}
}

// TestGreatestStreams fills histograms of the greatest capacity with great values, and takes them through the window.
func TestGreatestStreams(t *testing.T) {
	for _, k := range []int{1, finest} {
		s := newStream(t, longest, k, fullest, highest, last-longest-100)
		for i := range int64(fullest / highest) {
			s.advance(t, s.x.Now+i%7)
			for _, v := range []int64{i, highest - i} {
				s.items = append(s.items, api.Item{T: s.x.Now, V: v})
				s.x = added(t, s.x, v)
				s.check(t)
			}
		}
		asked(t, "all", s.x, whole(between(s.x)))
		for _, v := range []int64{1, highest} {
			got, err := Add(s.x, v)
			step(t, "Add behind the greatest capacity", got, err, api.ErrFull, api.Sum{})
		}
		for now := int64(last - 120); now <= last; now++ {
			s.x = moved(t, s.x, now)
			s.check(t)
		}
		if n := s.live(); n == 0 || n == fullest {
			t.Fatalf("at the last tick, the live values are %d", n)
		}
		s.x = added(t, s.x, 1)
	}
}

// TestBoundsAreReached makes two streams of each histogram of values of two ticks: in one, the live values add up to Hi, and in the other one to Lo.
func TestBoundsAreReached(t *testing.T) {
	for k := 1; k <= 3; k++ {
		for n := int64(1); n <= 60; n++ {
			x, _ := New(5, k, 100, 60, 10)
			lo, est, hi := between(added(t, x, n))
			// At tick 10, the first tick of the window is 6: of the first bucket, only the newest unit item need be so late.
			for _, early := range []int64{0, hi - lo} {
				s := newStream(t, 5, k, 100, 60, 5)
				s.add(t, early)
				s.advance(t, 6)
				s.add(t, n-early)
				s.advance(t, 10)
				s.check(t)
				asked(t, "a stream", s.x, whole(lo, est, hi))
				if s.live() != hi-early {
					t.Errorf("k %d: of %d, the live values are %d, not %d", k, n, s.live(), hi-early)
				}
			}
		}
	}
}

// call is a call with a state; results that the function does not have are zero.
type call func(x api.Sum) (api.Sum, api.Bounds, api.Errno)

// calls returns all calls with a state.
func calls() []call {
	all := []call{
		func(x api.Sum) (api.Sum, api.Bounds, api.Errno) { return api.Sum{}, api.Bounds{}, Validate(x) },
		func(x api.Sum) (api.Sum, api.Bounds, api.Errno) {
			answer, err := Ask(x)
			return api.Sum{}, answer, err
		},
	}
	for _, now := range []int64{5, 6, 7, 8, 9, last, last + 1, -1} {
		all = append(all, func(x api.Sum) (api.Sum, api.Bounds, api.Errno) {
			y, err := Advance(x, now)
			return y, api.Bounds{}, err
		})
	}
	for _, v := range []int64{-1, 0, 1, 2, 3, 5, 9, 10} {
		all = append(all, func(x api.Sum) (api.Sum, api.Bounds, api.Errno) {
			y, err := Add(x, v)
			return y, api.Bounds{}, err
		})
	}
	return all
}

// TestArguments checks that the buckets, and the memory before and behind them, stay as they are, and that this memory does not matter.
func TestArguments(t *testing.T) {
	lists := [][]api.Bucket{nil, bk(6, 0), bk(5, 0, 6, 0), bk(4, 1, 5, 0), bk(4, 1, 5, 0, 6, 0), bk(4, 1, 5, 1, 6, 0, 6, 0), bk(4, 2, 4, 2, 5, 1, 5, 1, 6, 0, 6, 0), bk(4, 0, 4, 0, 5, 0), bk(3, 0, 6, 0), bk(5, 0, 7, 0), bk(6, 0, 5, 0), bk(5, 31), bk(5, -1), bk(5, 1)}
	for _, list := range lists {
		n := len(list)
		memory := slices.Concat(bk(9, 9, 0, -4), list, bk(5, 2, 1, -9, 7, 7, 3, 3, 1, 1, 2, 2, 6, 6, 8, 8))
		before := slices.Clone(memory)
		for i, call := range calls() {
			for _, x := range []api.Sum{state(3, 1, 100, 6), state(3, 2, 100, 6), state(3, 1, max(1, n), 6), state(3, 0, 100, 6)} {
				x.Buckets = slices.Clone(list)
				want, answer, why := call(x)
				for end := 2 + n; end <= len(memory); end++ {
					x.Buckets = memory[2 : 2+n : end]
					got, b, err := call(x)
					if !same(got, want) || b != answer || err != why {
						t.Fatalf("call %d with %v = %v, %v, %d, not %v, %v, %d", i, x, got, b, err, want, answer, why)
					}
					if !slices.Equal(memory, before) {
						t.Fatalf("call %d with %v changed it, or what lies beside it: %v", i, x, memory)
					}
				}
			}
		}
	}
}

// TestBranches checks that the histograms that were made from one do not disturb each other or the one that they came from.
func TestBranches(t *testing.T) {
	source := rand.New(rand.NewSource(13))
	for _, k := range []int{1, 2, 4} {
		root := state(20, k, 90, 0)
		states, copies := []api.Sum{root}, []api.Sum{copied(root)}
		for range 2000 {
			from := states[source.Intn(len(states))]
			to, err := Add(from, source.Int63n(10))
			if source.Intn(3) == 0 {
				to, err = Advance(from, from.Now+source.Int63n(4))
			}
			if err == api.OK {
				states, copies = append(states, to), append(copies, copied(to))
			}
		}
		for i, x := range states {
			if !same(x, copies[i]) {
				t.Fatalf("k %d: histogram %d was %v and is %v", k, i, copies[i], x)
			}
			if !valid(x) {
				t.Fatalf("k %d: histogram %d is not valid: %v", k, i, x)
			}
		}
	}
}

// leftAt returns the buckets of a list that are live at a tick in a window of 30.
func leftAt(list []api.Bucket, now int64) []api.Bucket {
	return slices.DeleteFunc(slices.Clone(list), func(b api.Bucket) bool { return b.T <= now-30 })
}

// TestTwoOfOne makes several histograms from each one of a stream, by all calls.
func TestTwoOfOne(t *testing.T) {
	for _, k := range []int{1, 2, 3} {
		x := state(30, k, 999, 0)
		for n := range int64(60) {
			x = moved(t, x, n)
			origin := slices.Clone(x.Buckets)
			zero, stay, later := added(t, x, 0), moved(t, x, n), moved(t, x, n+3)
			a, b, c, d := added(t, x, n%10), added(t, zero, 9), added(t, later, 1), added(t, stay, 2, 3)
			e, f := added(t, later, 5), moved(t, a, n+7)
			first := inserted(origin, k, n, n%10)
			for i, p := range []struct {
				got  api.Sum
				now  int64
				want []api.Bucket
			}{{x, n, origin}, {zero, n, origin}, {stay, n, origin}, {later, n + 3, leftAt(origin, n+3)}, {a, n, first}, {b, n, inserted(origin, k, n, 9)}, {c, n + 3, inserted(leftAt(origin, n+3), k, n+3, 1)}, {d, n, inserted(origin, k, n, 5)}, {e, n + 3, inserted(leftAt(origin, n+3), k, n+3, 5)}, {f, n + 7, leftAt(first, n+7)}} {
				if !same(p.got, state(30, k, 999, p.now, p.want...)) {
					t.Fatalf("k %d, at tick %d: histogram %d is %v, not %v", k, n, i, p.got, p.want)
				}
			}
			x = a
		}
	}
}
