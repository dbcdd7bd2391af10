package count

import (
	"math"
	"math/bits"
	"math/rand"
	"slices"
	"testing"

	"windowpane/api"
)

const (
	least   = math.MinInt64
	most    = math.MaxInt64
	last    = 1 << 24 // the last tick
	longest = 1 << 20 // the longest window
	fullest = 1 << 16 // the greatest capacity
	finest  = 64      // the greatest K
)

// bk returns the list of buckets with these ticks and levels in turn.
func bk(numbers ...int64) []api.Bucket {
	var list []api.Bucket
	for i := 0; i < len(numbers); i += 2 {
		list = append(list, api.Bucket{T: numbers[i], Level: int(numbers[i+1])})
	}
	return list
}

// shaped returns a list with these numbers of buckets of the levels from 0 on, all with the tick at.
func shaped(at int64, counts ...int) []api.Bucket {
	var list []api.Bucket
	for level := len(counts) - 1; level >= 0; level-- {
		for range counts[level] {
			list = append(list, api.Bucket{T: at, Level: level})
		}
	}
	return list
}

// state returns the state with these buckets.
func state(w int64, k, size int, now int64, list ...api.Bucket) api.Count {
	return api.Count{W: w, K: k, Cap: size, Now: now, Buckets: list}
}

// same reports whether two states are equal; a nil list and an empty one are equivalent.
func same(a, b api.Count) bool {
	return a.W == b.W && a.K == b.K && a.Cap == b.Cap && a.Now == b.Now && slices.Equal(a.Buckets, b.Buckets)
}

// copied returns the state with a list of its own.
func copied(x api.Count) api.Count {
	x.Buckets = slices.Clone(x.Buckets)
	return x
}

// inWindow, tick, window, fine and size say which numbers are valid.
func inWindow(t, now, w int64) bool { return t >= 0 && now-w < t && t <= now }
func tick(n int64) bool             { return n > -1 && n < 16777217 }
func window(n int64) bool           { return n > 0 && n < 1048577 }
func fine(n int) bool               { return n > 0 && n < 65 }
func size(n int) bool               { return n > 0 && n < 65537 }

// having returns how many buckets of a list have a level.
func having(list []api.Bucket, level int) int {
	n := 0
	for _, b := range list {
		if b.Level == level {
			n++
		}
	}
	return n
}

// total adds up the sizes of a list with levels from 0 to 30.
func total(list []api.Bucket) int64 {
	sum := int64(0)
	for _, b := range list {
		sum += int64(math.Pow(2, float64(b.Level)))
	}
	return sum
}

// valid says which states are valid, bucket by bucket and level by level.
func valid(x api.Count) bool {
	if !window(x.W) || !fine(x.K) || !size(x.Cap) || !tick(x.Now) {
		return false
	}
	list := x.Buckets
	for i, b := range list {
		if !inWindow(b.T, x.Now, x.W) || b.Level < 0 || b.Level > 30 || i > 0 && (list[i-1].T > b.T || list[i-1].Level < b.Level) {
			return false
		}
	}
	if len(list) == 0 {
		return true
	}
	for level := 0; level < list[0].Level; level++ {
		if n := having(list, level); n != x.K && n != x.K+1 {
			return false
		}
	}
	return having(list, list[0].Level) < x.K+2 && total(list) <= int64(x.Cap)
}

// code returns the error that stands for an invalid state, if it is one.
func code(ok bool) api.Errno {
	if ok {
		return api.OK
	}
	return api.ErrState
}

// inserted adds a unit item to a list, word by word: it searches for the two oldest buckets of each level.
func inserted(list []api.Bucket, k int, t int64) []api.Bucket {
	list = append(slices.Clone(list), api.Bucket{T: t})
	for level := 0; ; level++ {
		var at []int
		for i, b := range list {
			if b.Level == level {
				at = append(at, i)
			}
		}
		if len(at) < k+2 {
			return list
		}
		newer := list[at[1]].T
		list = slices.Concat(list[:at[0]], []api.Bucket{{T: newer, Level: level + 1}}, list[at[0]+1:at[1]], list[at[1]+1:])
	}
}

func whole(lo, est, hi int64) api.Bounds {
	return api.Bounds{Lo: api.Ratio{Num: lo, Den: 1}, Est: api.Ratio{Num: est, Den: 1}, Hi: api.Ratio{Num: hi, Den: 1}}
}

// between returns the ends and the estimate of the answer to a valid state.
func between(x api.Count) (lo, est, hi int64) {
	if len(x.Buckets) == 0 {
		return 0, 0, 0
	}
	hi = total(x.Buckets)
	lo = hi - total(x.Buckets[:1]) + 1
	return lo, (lo + hi) / 2, hi
}

// edges returns the numbers around all limits.
func edges() []int64 {
	var list []int64
	for d := int64(-2); d <= 2; d++ {
		list = append(list, d, finest+d, 2*finest+d, fullest+d, longest+d, last-longest+d, last+d, 1<<32+d, math.MaxInt32+d, math.MinInt32+d)
	}
	for d := range int64(3) {
		list = append(list, least+d, most-d, least+longest+d, most-longest-d)
	}
	return list
}

// checkAdvance compares Advance with what the chapter says.
func checkAdvance(t *testing.T, x api.Count, now int64) {
	t.Helper()
	want, why := state(x.W, x.K, x.Cap, now), code(valid(x))
	if why == api.OK && (now < x.Now || now > last) {
		why = api.ErrTime
	}
	for _, b := range x.Buckets {
		if inWindow(b.T, now, x.W) {
			want.Buckets = append(want.Buckets, b)
		}
	}
	if why != api.OK {
		want = api.Count{}
	}
	if got, err := Advance(x, now); !same(got, want) || err != why {
		t.Fatalf("Advance(%v, %d) = %v, %d, not %v, %d", x, now, got, err, want, why)
	}
}

// checkAdd compares Add with what the chapter says.
func checkAdd(t *testing.T, x api.Count) {
	t.Helper()
	want, why := api.Count{}, code(valid(x))
	if why == api.OK && total(x.Buckets) == int64(x.Cap) {
		why = api.ErrFull
	}
	if why == api.OK {
		want = state(x.W, x.K, x.Cap, x.Now, inserted(x.Buckets, x.K, x.Now)...)
	}
	if got, err := Add(x); !same(got, want) || err != why {
		t.Fatalf("Add(%v) = %v, %d, not %v, %d", x, got, err, want, why)
	}
}

// checkAsk compares Ask with what the chapter says.
func checkAsk(t *testing.T, x api.Count) {
	t.Helper()
	want, why := api.Bounds{}, code(valid(x))
	if why == api.OK {
		want = whole(between(x))
	}
	if got, err := Ask(x); got != want || err != why {
		t.Fatalf("Ask(%v) = %v, %d, not %v, %d", x, got, err, want, why)
	}
}

// checkMerge compares Merge with what the chapter says.
func checkMerge(t *testing.T, a, b api.Count) {
	t.Helper()
	want, why := api.Bounds{}, code(valid(a) && valid(b))
	if why == api.OK && (a.W != b.W || a.Now != b.Now) {
		why = api.ErrArg
	}
	if why == api.OK {
		lo, est, hi := between(a)
		moreLo, moreEst, moreHi := between(b)
		want = whole(lo+moreLo, est+moreEst, hi+moreHi)
	}
	if got, err := Merge(a, b); got != want || err != why {
		t.Fatalf("Merge(%v, %v) = %v, %d, not %v, %d", a, b, got, err, want, why)
	}
}

func TestNew(t *testing.T) {
	wide := []int64{least, least + 1, -longest, -1, 0, 1, 2, 5, longest - 1, longest, longest + 1, last, last + 1, 1<<32 + 1, most}
	ticks := []int64{least, least + 1, -last, -1, 0, 1, 7, last - 1, last, last + 1, last + 2, 1 << 32, most}
	fines := []int{least, -finest, -1, 0, 1, 2, 3, finest - 1, finest, finest + 1, 2 * finest, 2*finest + 1, 1<<32 + 1, most}
	sizes := []int{least, -fullest, -1, 0, 1, 2, 3, fullest - 1, fullest, fullest + 1, fullest * 2, math.MaxInt32, 1<<32 + 1, most}
	seen := map[api.Errno]int{}
	for _, w := range wide {
		for _, k := range fines {
			for _, n := range sizes {
				for _, now := range ticks {
					want, why := state(w, k, n, now), api.OK
					if !window(w) || !fine(k) || !size(n) || !tick(now) {
						want, why = api.Count{}, api.ErrArg
					}
					seen[why]++
					got, err := New(w, k, n, now)
					if !same(got, want) || err != why {
						t.Errorf("New(%d, %d, %d, %d) = %v, %d", w, k, n, now, got, err)
					}
					if err == api.OK && (Validate(got) != api.OK || len(got.Buckets) != 0) {
						t.Errorf("New(%d, %d, %d, %d) is not valid", w, k, n, now)
					}
				}
			}
		}
	}
	if seen[api.OK] < 500 || seen[api.ErrArg] < 10000 {
		t.Errorf("the results are too much alike: %v", seen)
	}
}

// TestNewOfOneWrongNumber moves one argument over its limits.
func TestNewOfOneWrongNumber(t *testing.T) {
	for _, n := range edges() {
		for i, c := range []struct {
			w      int64
			k, cap int
			now    int64
			ok     bool
		}{{n, 2, 9, 5, window(n)}, {3, int(n), 9, 5, fine(int(n))}, {3, 2, int(n), 5, size(int(n))}, {3, 2, 9, n, tick(n)}} {
			want, why := state(c.w, c.k, c.cap, c.now), api.OK
			if !c.ok {
				want, why = api.Count{}, api.ErrArg
			}
			if got, err := New(c.w, c.k, c.cap, c.now); !same(got, want) || err != why {
				t.Errorf("argument %d is %d: New = %v, %d", i, n, got, err)
			}
			if err := Validate(state(c.w, c.k, c.cap, c.now)); err != code(c.ok) {
				t.Errorf("number %d of an empty state is %d: Validate = %d", i, n, err)
			}
		}
	}
}

// validStates returns states at the limits.
func validStates() []api.Count {
	return []api.Count{
		// The empty histogram, with the least and the greatest parameters.
		state(3, 2, 9, 5), {W: 1, K: 1, Cap: 1, Buckets: []api.Bucket{}}, state(1, 1, 1, 0), state(longest, finest, fullest, last), state(longest, 1, 1, 0), state(1, finest, fullest, last),
		// One bucket, several, the first one of each number that there may be.
		state(3, 1, 9, 5, bk(5, 0)...), state(10, 1, 4, 5, bk(1, 1, 2, 0, 5, 0)...), state(10, 2, 9, 5, bk(1, 1, 2, 0, 5, 0)...), state(10, 1, 9, 5, bk(1, 1, 2, 1, 5, 0)...), state(3, 1, 9, 5, bk(3, 0, 5, 0)...), state(3, 4, 9, 5, shaped(4, 5)...), state(3, 4, 99, 5, shaped(4, 4, 5, 1)...), state(3, 4, 99, 5, shaped(4, 5, 4, 5)...),
		// A bucket of the first live tick, and at the tick Now; equal ticks.
		state(3, 1, 9, 5, bk(3, 0)...), state(3, 2, 9, 5, bk(3, 1, 3, 0, 3, 0)...), state(3, 2, 9, 5, bk(3, 1, 4, 0, 5, 0)...), state(3, 2, 9, 5, bk(5, 1, 5, 0, 5, 0)...), state(1, 1, 9, 5, bk(5, 2, 5, 1, 5, 0)...), state(1, 1, 1, 0, bk(0, 0)...), state(1, 1, 1, last, bk(last, 0)...), state(longest, 1, 2, 0, bk(0, 0, 0, 0)...), state(longest, 1, 3, last, bk(last-longest+1, 1, last, 0)...), state(longest, 1, 2, longest-1, bk(0, 0, longest-1, 0)...), state(longest, 1, 1, longest, bk(1, 0)...), state(4, 1, 1, 2, bk(0, 0)...),
		// Total is just below Cap, and Cap.
		state(3, 1, 5, 5, bk(4, 1, 4, 0, 5, 0)...), state(3, 1, 4, 5, bk(4, 1, 4, 0, 5, 0)...), state(3, 3, 5, 5, shaped(4, 4)...), state(3, 3, 4, 5, shaped(4, 4)...), state(3, 1, 1, 5, bk(5, 0)...), state(3, 1, 15, 5, shaped(4, 1, 1, 1, 1)...),
		// The greatest histograms: Total is 2^16, and one less.
		state(3, 1, fullest, 5, greatest(4)...), state(3, 1, fullest, 5, shaped(4, 1, 1, 1, 1, 1, 1, 1, 1, 1, 1, 1, 1, 1, 1, 1, 1)...), state(3, finest, fullest, 5, greatestFine(4)...), state(3, finest, fullest, 5, greatestFine(4)[1:]...),
	}
}

// greatest returns the list of 2^16 items of one tick for K = 1.
func greatest(at int64) []api.Bucket {
	return shaped(at, 2, 1, 1, 1, 1, 1, 1, 1, 1, 1, 1, 1, 1, 1, 1, 1)
}

// greatestFine returns the list of 2^16 items of one tick for K = 64.
func greatestFine(at int64) []api.Bucket {
	list := shaped(at, 64, 64, 64, 64, 64, 64, 64, 64, 64, 64)
	// Ten levels of 64 buckets stand for 65472 items.
	for range 64 {
		list = inserted(list, finest, at)
	}
	return list
}

// invalidStates returns states that violate one condition each.
func invalidStates() []api.Count {
	list := []api.Count{
		{}, {W: 3}, {K: 1}, {Cap: 2}, {W: 3, K: 1}, {W: 3, Cap: 2}, {K: 1, Cap: 2}, {K: 1, Cap: 2, Now: 5},
		// The list is not valid for K: the order, the levels, the number of buckets of a level.
		state(10, 1, 99, 5, bk(2, 0, 1, 0)...), state(10, 1, 99, 5, bk(2, 1, 1, 0)...), state(10, 1, 99, 5, bk(1, 0, 2, 1)...), state(10, 1, 99, 5, bk(1, 1, 2, 2, 3, 0)...), state(10, 1, 99, 5, bk(1, -1)...), state(10, 1, 99, 5, bk(1, 0, 2, -1)...), state(10, 1, 99, 5, bk(1, least)...), state(10, 1, fullest, 5, bk(1, 31)...), state(10, 1, fullest, 5, bk(1, 64)...), state(10, 1, fullest, 5, bk(1, most)...), state(10, 1, 99, 5, bk(1, 1)...), state(10, 1, 99, 5, bk(1, 2, 2, 0)...), state(10, 1, 99, 5, bk(1, 1, 2, 1)...), state(10, 2, 99, 5, bk(1, 1, 2, 0)...), state(10, 3, 99, 5, bk(1, 1, 2, 0, 5, 0)...),
		state(10, 1, 99, 5, shaped(5, 3)...), state(10, 4, 99, 5, shaped(5, 6)...), state(10, 4, 99, 5, shaped(5, 3, 1)...), state(10, 4, 99, 5, shaped(5, 6, 1)...), state(10, 4, 99, 5, shaped(5, 4, 6)...), state(10, 4, 99, 5, shaped(5, 4, 3, 1)...), state(10, 4, 99, 5, shaped(5, 0, 4)...), state(10, finest, fullest, 5, shaped(5, finest+2)...), state(10, finest, fullest, 5, shaped(5, finest-1, 1)...),
		// It is valid for a K that is out of range here, but not for buckets.
		state(10, finest+1, fullest, 5, shaped(5, finest+1, 1)...), state(10, 2*finest, fullest, 5, shaped(5, 2*finest, 1)...), state(10, 2*finest, fullest, 5),
		// A bucket is past Now.
		state(3, 1, 9, 5, bk(6, 0)...), state(3, 1, 9, 5, bk(5, 0, 6, 0)...), state(3, 1, 9, 5, bk(4, 1, 5, 0, 6, 0)...), state(3, 1, 9, 0, bk(1, 0)...), state(longest, 1, 9, last-1, bk(last, 0)...), state(longest, 1, 9, last, bk(last+1, 0)...), state(3, 1, 9, 5, bk(most, 0)...), state(3, 3, 9, 5, bk(4, 0, 5, 0, 5, 0, 6, 0)...),
		// A bucket is not live any more.
		state(3, 1, 9, 5, bk(2, 0)...), state(3, 1, 9, 5, bk(2, 0, 3, 0)...), state(3, 1, 9, 5, bk(0, 1, 4, 0, 5, 0)...), state(3, 1, 9, 5, bk(2, 1, 2, 0, 2, 0)...), state(1, 1, 9, 5, bk(4, 0)...), state(1, 1, 9, 5, bk(4, 0, 5, 0)...), state(4, 1, 4, 5, bk(1, 1, 2, 0, 5, 0)...), state(longest, 1, 9, longest, bk(0, 0)...), state(longest, 1, 9, last, bk(last-longest, 0, last, 0)...), state(longest, 1, 9, last, bk(last-longest, 1, last-longest+1, 0)...),
		// A tick is negative.
		state(3, 1, 9, 0, bk(-1, 0)...), state(longest, 1, 9, 5, bk(-1, 0)...), state(longest, 1, 9, 5, bk(-1, 0, 0, 0)...), state(3, 1, 9, 5, bk(least, 0)...), state(longest, 1, 9, last, bk(least, 0, last, 0)...),
		// Total is greater than Cap.
		state(3, 1, 1, 5, bk(5, 0, 5, 0)...), state(10, 1, 3, 5, bk(1, 1, 2, 0, 5, 0)...), state(3, 3, 3, 5, shaped(4, 4)...), state(3, 1, 14, 5, shaped(4, 1, 1, 1, 1)...), state(3, 1, 1, 5, shaped(4, 1, 1, 1, 1)...), state(3, 1, fullest-1, 5, greatest(4)...), state(3, 1, fullest, 5, inserted(greatest(4), 1, 5)...), state(3, finest, fullest, 5, inserted(greatestFine(4), finest, 5)...), state(3, finest, fullest-1, 5, greatestFine(4)...), state(3, 1, fullest, 5, shaped(5, slices.Repeat([]int{1}, 31)...)...), state(3, finest, fullest, 5, shaped(5, slices.Repeat([]int{finest + 1}, 31)...)...),
	}
	// A parameter is out of range.
	for _, buckets := range [][]api.Bucket{nil, bk(5, 0), bk(4, 1, 5, 0)} {
		for _, n := range []int64{0, -1, least, most, 1<<32 + 1, last + 1} {
			list = append(list, state(n, 1, 9, 5, buckets...), state(3, int(n), 9, 5, buckets...), state(3, 1, int(n), 5, buckets...))
		}
		list = append(list, state(longest+1, 1, 9, 5, buckets...), state(3, finest+1, 9, 5, buckets...), state(3, 1, fullest+1, 5, buckets...))
		for _, n := range []int64{-1, least, most, 1<<32 + 5, last + 1} {
			list = append(list, state(3, 1, 9, n, buckets...))
		}
	}
	return append(list, state(3, 1, 9, last+1, bk(last, 0)...), state(3, 1, 9, last+1, bk(last+1, 0)...), state(3, 1, 9, -1, bk(-1, 0)...))
}

func TestValidate(t *testing.T) {
	for i, x := range validStates() {
		if err := Validate(x); err != api.OK || !valid(x) {
			t.Errorf("valid state %d: Validate(%v) = %d", i, x, err)
		}
	}
	for i, x := range invalidStates() {
		if err := Validate(x); err != api.ErrState || valid(x) {
			t.Errorf("invalid state %d: Validate(%v) = %d", i, x, err)
		}
	}
}

// TestStateFirst checks that an invalid state is answered with ErrState, whatever the other arguments are.
func TestStateFirst(t *testing.T) {
	for i, x := range invalidStates() {
		for _, now := range []int64{x.Now, x.Now - 1, x.Now + 1, 0, 5, 6, last, last + 1, -1, least, most} {
			if got, err := Advance(x, now); err != api.ErrState || !same(got, api.Count{}) {
				t.Errorf("invalid state %d: Advance to %d = %v, %d", i, now, got, err)
			}
		}
		if got, err := Add(x); err != api.ErrState || !same(got, api.Count{}) {
			t.Errorf("invalid state %d: Add = %v, %d", i, got, err)
		}
		if got, err := Ask(x); err != api.ErrState || got != (api.Bounds{}) {
			t.Errorf("invalid state %d: Ask = %v, %d", i, got, err)
		}
	}
}

// TestMergeStateFirst merges two invalid states, and an invalid one with a valid one in both orders, whose W and Now may differ.
func TestMergeStateFirst(t *testing.T) {
	bad := invalidStates()
	good := []api.Count{state(3, 1, 9, 5), state(3, 1, 9, 5, bk(5, 0)...), state(10, 1, 9, 5), state(3, 1, 9, 4), state(1, 1, 1, 0), state(longest, finest, fullest, last)}
	for i, x := range bad {
		for _, y := range append(good, x, bad[(i+1)%len(bad)], bad[(i+7)%len(bad)]) {
			for _, pair := range [][2]api.Count{{x, y}, {y, x}} {
				if got, err := Merge(pair[0], pair[1]); err != api.ErrState || got != (api.Bounds{}) {
					t.Errorf("Merge(%v, %v) = %v, %d", pair[0], pair[1], got, err)
				}
			}
		}
	}
}

// smallStates calls try with all states of these sizes and ticks, with up to 3 buckets.
func smallStates(try func(x api.Count)) {
	var extend func(x api.Count)
	extend = func(x api.Count) {
		try(x)
		if len(x.Buckets) == 3 {
			return
		}
		for t := int64(0); t <= 4; t++ {
			for level := range 3 {
				y := copied(x)
				y.Buckets = append(y.Buckets, api.Bucket{T: t, Level: level})
				extend(y)
			}
		}
	}
	for _, w := range []int64{0, 1, 2, 3, 5} {
		for k := 0; k <= 2; k++ {
			for n := 0; n <= 4; n++ {
				for _, now := range []int64{-1, 0, 2, 3} {
					extend(state(w, k, n, now))
				}
			}
		}
	}
}

func TestAllSmallStates(t *testing.T) {
	seen := map[api.Errno]int{}
	smallStates(func(x api.Count) {
		why := code(valid(x))
		seen[why]++
		if err := Validate(x); err != why {
			t.Fatalf("Validate(%v) = %d", x, err)
		}
		checkAdd(t, x)
		checkAsk(t, x)
		if why != api.OK {
			return
		}
		for now := int64(-1); now <= 9; now++ {
			checkAdvance(t, x, now)
		}
	})
	if seen[api.OK] < 500 || seen[api.ErrState] < 100000 {
		t.Errorf("the results are too much alike: %v", seen)
	}
}

func TestMergeOfAllSmallStates(t *testing.T) {
	var list []api.Count
	i := 0
	smallStates(func(x api.Count) {
		// Of the invalid states, a few are enough.
		if i++; valid(x) || i%1009 == 0 {
			list = append(list, x)
		}
	})
	for _, a := range list {
		for _, b := range list {
			checkMerge(t, a, b)
		}
	}
}

func TestValidateAroundTheLimits(t *testing.T) {
	for _, w := range edges() {
		for _, now := range edges() {
			for _, n := range edges() {
				x := state(w, 1, 3, now, bk(n, 0)...)
				if err := Validate(x); err != code(valid(x)) {
					t.Errorf("Validate(%v) = %d", x, err)
				}
			}
		}
	}
	for _, n := range edges() {
		for _, x := range []api.Count{state(3, int(n), 9, 5, bk(4, 0, 5, 0)...), state(3, 1, int(n), 5, bk(4, 0, 5, 0)...), state(3, 1, fullest, 5, bk(4, n)...), state(3, 1, fullest, 5, bk(4, n, 5, 0)...), state(3, 1, fullest, 5, greatest(5)...)} {
			if err := Validate(x); err != code(valid(x)) {
				t.Errorf("Validate(%v) = %d", x, err)
			}
		}
	}
}

// step checks the result of a call.
func step(t *testing.T, name string, got api.Count, err, why api.Errno, want api.Count) {
	t.Helper()
	if err != why || !same(got, want) {
		t.Fatalf("%s = %v, %d, not %v, %d", name, got, err, want, why)
	}
}

// asked checks an answer.
func asked(t *testing.T, name string, x api.Count, want api.Bounds) {
	t.Helper()
	if got, err := Ask(x); err != api.OK || got != want {
		t.Fatalf("%s: Ask(%v) = %v, %d, not %v", name, x, got, err, want)
	}
}

// added returns the state after n items.
func added(t *testing.T, x api.Count, n int) api.Count {
	t.Helper()
	for range n {
		y, err := Add(x)
		if err != api.OK {
			t.Fatalf("Add(%v) = %d", x, err)
		}
		x = y
	}
	return x
}

// moved returns the state at a later tick.
func moved(t *testing.T, x api.Count, now int64) api.Count {
	t.Helper()
	y, err := Advance(x, now)
	if err != api.OK {
		t.Fatalf("Advance(%v, %d) = %d", x, now, err)
	}
	return y
}

func TestExamples(t *testing.T) {
	x, err := New(10, 1, 100, 0)
	step(t, "New", x, err, api.OK, state(10, 1, 100, 0))
	asked(t, "nothing", x, whole(0, 0, 0))
	x = added(t, x, 4)
	step(t, "four times Add", x, api.OK, api.OK, state(10, 1, 100, 0, bk(0, 1, 0, 0, 0, 0)...))
	asked(t, "at tick 0", x, whole(3, 3, 4))
	asked(t, "at tick 9", moved(t, x, 9), whole(3, 3, 4))
	x, err = Advance(x, 10)
	step(t, "Advance to 10", x, err, api.OK, state(10, 1, 100, 10))
	asked(t, "at tick 10", x, whole(0, 0, 0))

	x, _ = New(10, 1, 100, 0)
	for now := range int64(4) {
		x = added(t, moved(t, x, now), 1)
	}
	x, err = Advance(x, 10)
	step(t, "Advance to 10", x, err, api.OK, state(10, 1, 100, 10, bk(1, 1, 2, 0, 3, 0)...))
	asked(t, "ticks 0 to 3", x, whole(3, 3, 4))
	x, err = Advance(x, 11)
	step(t, "Advance to 11", x, err, api.OK, state(10, 1, 100, 11, bk(2, 0, 3, 0)...))
	asked(t, "ticks 0 to 3", x, whole(2, 2, 2))
	asked(t, "ticks 0 to 3", moved(t, x, 12), whole(1, 1, 1))
	asked(t, "ticks 0 to 3", moved(t, x, 13), whole(0, 0, 0))
}

func TestAdvance(t *testing.T) {
	x := state(3, 1, 9, 5, bk(3, 2, 4, 1, 4, 1, 5, 0)...)
	two := state(10, 2, 99, 10, bk(2, 2, 3, 1, 3, 1, 5, 0, 8, 0, 10, 0)...)
	for _, c := range []struct {
		x    api.Count
		now  int64
		from int // the first bucket that stays
	}{
		// By nothing, by one tick, by a window and by more, to the last tick.
		{x, 5, 0}, {x, 6, 1}, {x, 7, 3}, {x, 8, 4}, {x, 9, 4}, {x, last, 4},
		// Nothing, some buckets, a whole level and all leave.
		{two, 10, 0}, {two, 11, 0}, {two, 12, 1}, {two, 13, 3}, {two, 14, 3}, {two, 15, 4}, {two, 17, 4}, {two, 18, 5}, {two, 19, 5}, {two, 20, 6}, {two, 21, 6}, {two, last, 6},
		// Nothing has to leave the empty histogram.
		{state(3, 1, 1, 0), 0, 0}, {state(3, 1, 1, 0), 1, 0}, {state(3, 1, 1, 0), 3, 0}, {state(3, 1, 1, 0), last, 0}, {state(3, 1, 1, last), last, 0}, {state(longest, finest, fullest, 5), last, 0},
		// A bucket is live for the last tick, and has just left.
		{state(3, 1, 1, 5, bk(5, 0)...), 7, 0}, {state(3, 1, 1, 5, bk(5, 0)...), 8, 1}, {state(3, 1, 1, 0, bk(0, 0)...), 2, 0}, {state(3, 1, 1, 0, bk(0, 0)...), 3, 1}, {state(3, 1, 1, 5, bk(3, 0)...), 5, 0}, {state(3, 1, 1, 5, bk(3, 0)...), 6, 1},
		// Equal ticks leave together.
		{state(3, 2, 9, 5, bk(3, 1, 3, 0, 3, 0, 5, 0)...), 5, 0}, {state(3, 2, 9, 5, bk(3, 1, 3, 0, 3, 0, 5, 0)...), 6, 3},
		// A window of 1 and the longest one, with the first and the last tick.
		{state(1, 1, 2, 5, bk(5, 0, 5, 0)...), 5, 0}, {state(1, 1, 2, 5, bk(5, 0, 5, 0)...), 6, 2}, {state(1, 1, 1, last-1, bk(last-1, 0)...), last, 1}, {state(1, 1, 1, last, bk(last, 0)...), last, 0}, {state(longest, 1, 2, 0, bk(0, 0, 0, 0)...), longest - 1, 0}, {state(longest, 1, 2, 0, bk(0, 0, 0, 0)...), longest, 2}, {state(longest, 1, 2, 1, bk(0, 0, 1, 0)...), longest, 1}, {state(longest, 1, 2, last-longest+1, bk(last-longest, 0, last-longest+1, 0)...), last, 1}, {state(longest, 1, 1, 0, bk(0, 0)...), last, 1},
		// The greatest histograms.
		{state(2, 1, fullest, 9, greatest(8)...), 9, 0}, {state(2, 1, fullest, 9, greatest(8)...), 10, 17}, {state(2, finest, fullest, 9, greatestFine(9)...), 10, 0}, {state(2, finest, fullest, 9, greatestFine(9)...), 11, len(greatestFine(9))},
	} {
		want := state(c.x.W, c.x.K, c.x.Cap, c.now, c.x.Buckets[c.from:]...)
		got, err := Advance(c.x, c.now)
		if err != api.OK || !same(got, want) {
			t.Errorf("Advance(%v, %d) = %v, %d", c.x, c.now, got, err)
		}
		checkAdvance(t, c.x, c.now)
		checkAsk(t, got)
		checkAdd(t, got)
	}
}

func TestAdvanceErrors(t *testing.T) {
	for _, x := range validStates() {
		for _, now := range edges() {
			checkAdvance(t, x, now)
		}
		for _, now := range []int64{x.Now - 1, -1, least, least + x.Now, last + 1, last + 2, most, 1<<32 + x.Now} {
			if got, err := Advance(x, now); err != api.ErrTime || !same(got, api.Count{}) {
				t.Errorf("Advance(%v, %d) = %v, %d", x, now, got, err)
			}
		}
	}
}

func TestAdd(t *testing.T) {
	for _, c := range []struct {
		x    api.Count
		want []api.Bucket
	}{
		// To the empty histogram; no level is merged.
		{state(3, 1, 9, 5), bk(5, 0)}, {state(1, 1, 1, 0), bk(0, 0)}, {state(longest, finest, fullest, last), bk(last, 0)}, {api.Count{W: 3, K: 2, Cap: 2, Now: 5, Buckets: []api.Bucket{}}, bk(5, 0)},
		{state(3, 1, 9, 5, bk(4, 0)...), bk(4, 0, 5, 0)}, {state(3, 1, 9, 5, bk(5, 0)...), bk(5, 0, 5, 0)}, {state(3, 1, 9, 5, bk(3, 1, 4, 0)...), bk(3, 1, 4, 0, 5, 0)}, {state(3, 2, 9, 5, bk(3, 0, 4, 0)...), bk(3, 0, 4, 0, 5, 0)}, {state(3, 1, 9, 5, bk(3, 1, 3, 1, 4, 0)...), bk(3, 1, 3, 1, 4, 0, 5, 0)},
		// One level is merged.
		{state(3, 1, 9, 5, bk(3, 0, 4, 0)...), bk(4, 1, 5, 0)}, {state(3, 1, 9, 5, bk(3, 1, 4, 0, 4, 0)...), bk(3, 1, 4, 1, 5, 0)}, {state(3, 2, 9, 5, bk(3, 0, 4, 0, 5, 0)...), bk(4, 1, 5, 0, 5, 0)}, {state(9, 3, 9, 9, bk(3, 0, 5, 0, 6, 0, 7, 0)...), bk(5, 1, 6, 0, 7, 0, 9, 0)},
		// Several are.
		{state(9, 1, 9, 9, bk(3, 1, 4, 1, 5, 0, 6, 0)...), bk(4, 2, 6, 1, 9, 0)}, {state(9, 1, 99, 9, bk(1, 2, 2, 2, 3, 1, 4, 1, 5, 0, 6, 0)...), bk(2, 3, 4, 2, 6, 1, 9, 0)}, {state(9, 1, 99, 9, bk(2, 2, 3, 1, 4, 1, 5, 0, 6, 0)...), bk(2, 2, 4, 2, 6, 1, 9, 0)}, {state(9, 2, 99, 9, bk(1, 1, 2, 1, 3, 1, 4, 0, 5, 0, 6, 0)...), bk(2, 2, 3, 1, 5, 1, 6, 0, 9, 0)},
		// Total is just below Cap.
		{state(3, 1, 5, 5, bk(4, 1, 4, 0, 5, 0)...), bk(4, 1, 5, 1, 5, 0)}, {state(3, 1, 2, 5, bk(3, 0)...), bk(3, 0, 5, 0)}, {state(3, 1, 3, 5, bk(3, 0, 3, 0)...), bk(3, 1, 5, 0)},
	} {
		if got, err := Add(c.x); err != api.OK || !same(got, state(c.x.W, c.x.K, c.x.Cap, c.x.Now, c.want...)) {
			t.Errorf("Add(%v) = %v, %d, not %v", c.x, got, err, c.want)
		}
		checkAdd(t, c.x)
	}
}

func TestAddErrors(t *testing.T) {
	for _, x := range []api.Count{state(3, 1, 1, 5, bk(5, 0)...), state(3, 1, 1, 5, bk(3, 0)...), state(1, finest, 1, 0, bk(0, 0)...), state(3, 1, 2, 5, bk(3, 0, 5, 0)...), state(3, 1, 3, 5, bk(3, 1, 5, 0)...), state(3, 1, 4, 5, bk(4, 1, 4, 0, 5, 0)...), state(3, 3, 4, 5, shaped(4, 4)...), state(3, 1, fullest, 5, greatest(4)...), state(3, finest, fullest, 5, greatestFine(4)...), state(longest, 1, 1, last, bk(last-longest+1, 0)...)} {
		if got, err := Add(x); err != api.ErrFull || !same(got, api.Count{}) {
			t.Errorf("Add(%v) = %v, %d", x, got, err)
		}
		// A full histogram still answers and moves.
		checkAsk(t, x)
		checkAdvance(t, x, x.Now)
		checkAdvance(t, x, last)
		// With one item more of room, it takes one.
		if x.Cap++; x.Cap <= fullest {
			checkAdd(t, x)
			if _, err := Add(x); err != api.OK {
				t.Errorf("Add(%v) = %d", x, err)
			}
		}
	}
}

// TestFullOfExpiredItems fills a histogram whose first bucket has items that are no longer live but still count.
func TestFullOfExpiredItems(t *testing.T) {
	for _, c := range []struct {
		size int
		live int // the number of live items at tick 10
		want []api.Bucket
	}{{4, 3, bk(1, 1, 2, 0, 3, 0)}, {3, 2, bk(1, 1, 2, 0)}} {
		x, _ := New(10, 1, c.size, 0)
		for now := range int64(c.size) {
			x = added(t, moved(t, x, now), 1)
		}
		x = moved(t, x, 10)
		full := state(10, 1, c.size, 10, c.want...)
		step(t, "Advance to 10", x, api.OK, api.OK, full)
		// The item of tick 0 has left, but nobody knows.
		y, err := Add(x)
		step(t, "Add at tick 10", y, err, api.ErrFull, api.Count{})
		if c.live*2 < c.size {
			t.Errorf("%d live items are too few for the capacity %d", c.live, c.size)
		}
		// With the first bucket, two items have left.
		x = added(t, moved(t, x, 11), 2)
		y, err = Add(x)
		step(t, "Add at tick 11", y, err, api.ErrFull, api.Count{})
	}
}

func TestAsk(t *testing.T) {
	for _, c := range []struct {
		list []api.Bucket
		k    int
		want api.Bounds
	}{
		{nil, 1, whole(0, 0, 0)}, {bk(), finest, whole(0, 0, 0)}, {bk(5, 0), 1, whole(1, 1, 1)}, {bk(1, 0, 5, 0), 1, whole(2, 2, 2)}, {shaped(5, 65), 64, whole(65, 65, 65)},
		{bk(1, 1, 5, 0), 1, whole(2, 2, 3)}, {bk(1, 1, 2, 0, 3, 0), 1, whole(3, 3, 4)}, {bk(1, 1, 2, 1, 5, 0), 1, whole(4, 4, 5)}, {bk(0, 2, 1, 1, 5, 0), 1, whole(4, 5, 7)}, {shaped(5, 1, 1, 1, 1), 1, whole(8, 11, 15)}, {shaped(5, 2, 2, 1), 2, whole(7, 8, 10)}, {shaped(5, 64, 1), 64, whole(65, 65, 66)},
	} {
		for _, w := range []int64{6, 7, longest} {
			asked(t, "a list", state(w, c.k, 100, 5, c.list...), c.want)
		}
	}
	asked(t, "the greatest list", state(1, 1, fullest, 0, greatest(0)...), whole(32769, 49152, 65536))
	asked(t, "the greatest fine list", state(1, finest, fullest, 0, greatestFine(0)...), whole(65025, 65280, 65536))
	for _, x := range validStates() {
		checkAsk(t, x)
	}
}

func TestMerge(t *testing.T) {
	x := state(10, 1, 100, 10, bk(1, 1, 2, 0, 3, 0)...)
	y := state(10, 1, 100, 10, bk(1, 2, 2, 1, 10, 0)...)
	empty := state(10, 1, 100, 10)
	for _, c := range []struct {
		a, b api.Count
		want api.Bounds
	}{
		{x, x, whole(6, 6, 8)}, {y, y, whole(8, 10, 14)}, {x, y, whole(7, 8, 11)}, {x, empty, whole(3, 3, 4)}, {y, empty, whole(4, 5, 7)}, {empty, empty, whole(0, 0, 0)},
		// K and Cap differ.
		{x, state(10, 3, 7, 10), whole(3, 3, 4)}, {x, state(10, 2, 5, 10, bk(4, 1, 5, 0, 6, 0)...), whole(6, 6, 8)}, {x, state(10, finest, fullest, 10, shaped(4, 64, 3)...), whole(72, 72, 74)}, {y, state(10, finest, 66, 10, shaped(1, 64, 1)...), whole(69, 70, 73)},
		// The sum of the estimates is not the middle between the sums of the ends.
		{x, state(10, 1, 3, 10, bk(5, 1, 5, 0)...), whole(5, 5, 7)},
		{state(1, 1, fullest, last, greatest(last)...), state(1, 1, fullest, last, greatest(last)...), whole(65538, 98304, 131072)},
		{state(longest, 1, fullest, last, greatest(last-longest+1)...), state(longest, finest, fullest, last, greatestFine(last)...), whole(97794, 114432, 131072)},
	} {
		for _, pair := range [][2]api.Count{{c.a, c.b}, {c.b, c.a}} {
			if got, err := Merge(pair[0], pair[1]); err != api.OK || got != c.want {
				t.Errorf("Merge(%v, %v) = %v, %d, not %v", pair[0], pair[1], got, err, c.want)
			}
			checkMerge(t, pair[0], pair[1])
		}
	}
}

func TestMergeErrors(t *testing.T) {
	x := state(10, 1, 100, 10, bk(3, 1, 4, 0, 5, 0)...)
	for _, y := range []api.Count{state(9, 1, 100, 10, bk(3, 1, 4, 0, 5, 0)...), state(11, 1, 100, 10), state(10, 1, 100, 11, bk(3, 1, 4, 0, 5, 0)...), state(10, 1, 100, 9, bk(3, 1, 4, 0, 5, 0)...), state(9, 1, 100, 9), state(11, 2, 7, 11), state(1, 1, 1, 0), state(10, 1, 100, last), state(10, 1, 100, 0), state(longest, 1, 100, 10), state(1, 1, 100, 10)} {
		for _, pair := range [][2]api.Count{{x, y}, {y, x}} {
			if got, err := Merge(pair[0], pair[1]); err != api.ErrArg || got != (api.Bounds{}) {
				t.Errorf("Merge(%v, %v) = %v, %d", pair[0], pair[1], got, err)
			}
		}
	}
	for _, a := range validStates() {
		for _, b := range validStates() {
			checkMerge(t, a, b)
		}
	}
}

// stream is a histogram with the ticks of all items that were added.
type stream struct {
	x     api.Count
	ticks []int64
}

// live returns the number of live items.
func (s *stream) live() int64 {
	n := int64(0)
	for _, t := range s.ticks {
		if inWindow(t, s.x.Now, s.x.W) {
			n++
		}
	}
	return n
}

// check holds the histogram against its items.
func (s *stream) check(t *testing.T) {
	t.Helper()
	if Validate(s.x) != api.OK || !valid(s.x) {
		t.Fatalf("%v is not valid", s.x)
	}
	b, err := Ask(s.x)
	lo, hi, n := b.Lo.Num, b.Hi.Num, s.live()
	if err != api.OK || b.Lo.Den != 1 || b.Hi.Den != 1 || n < lo || n > hi {
		t.Fatalf("with %d live items, Ask(%v) = %v, %d", n, s.x, b, err)
	}
	if int64(s.x.K)*(hi-lo) > lo || hi > int64(s.x.Cap) {
		t.Fatalf("the answer of %v is too wide: %v", s.x, b)
	}
	if size := (s.x.K + 1) * bits.Len(uint(s.x.Cap)); len(s.x.Buckets) > size {
		t.Fatalf("%v has more than %d buckets", s.x, size)
	}
}

// add adds an item, if the histogram takes it, and holds an error against the number of live items.
func (s *stream) add(t *testing.T) bool {
	t.Helper()
	checkAdd(t, s.x)
	n, k, size := s.live(), int64(s.x.K), int64(s.x.Cap)
	y, err := Add(s.x)
	if err == api.OK {
		if n >= size {
			t.Fatalf("Add(%v) takes an item beside %d live ones", s.x, n)
		}
		s.x, s.ticks = y, append(s.ticks, s.x.Now)
		return true
	}
	if err != api.ErrFull || n*(k+1) < size*k {
		t.Fatalf("Add(%v) = %d, with %d live items", s.x, err, n)
	}
	return false
}

func (s *stream) advance(t *testing.T, now int64) {
	t.Helper()
	checkAdvance(t, s.x, now)
	s.x = moved(t, s.x, now)
}

// newStream returns an empty stream with these parameters.
func newStream(t *testing.T, w int64, k, size int, now int64) *stream {
	t.Helper()
	x, err := New(w, k, size, now)
	if err != api.OK {
		t.Fatalf("New(%d, %d, %d, %d) = %d", w, k, size, now, err)
	}
	return &stream{x: x}
}

// TestStreams adds items and moves the clock at random.
func TestStreams(t *testing.T) {
	source := rand.New(rand.NewSource(11))
	seen := map[bool]int{}
	for range 200 {
		w := 1 + source.Int63n(40)
		k := []int{1, 2, 3, 5, 17, finest}[source.Intn(6)]
		start := []int64{0, 0, source.Int63n(100), last - 300}[source.Intn(4)]
		s := newStream(t, w, k, 1+source.Intn(120), start)
		for range 300 {
			switch source.Intn(4) {
			case 0:
				step := max(0, source.Int63n(6)-3)
				if source.Intn(20) == 0 {
					step = w - 2 + source.Int63n(4)
				}
				s.advance(t, min(last, s.x.Now+max(0, step)))
			default:
				seen[s.add(t)]++
			}
			s.check(t)
		}
	}
	if seen[true] < 10000 || seen[false] < 1000 {
		t.Errorf("the results are too much alike: %v", seen)
	}
}

// TestMergeStreams merges histograms of items of their own, which have the same window and clock.
func TestMergeStreams(t *testing.T) {
	source := rand.New(rand.NewSource(12))
	for range 100 {
		w := 1 + source.Int63n(40)
		var list []*stream
		for range 3 {
			list = append(list, newStream(t, w, []int{1, 2, 3, 17, finest}[source.Intn(5)], 1+source.Intn(200), 0))
		}
		for now := range int64(150) {
			for i, s := range list {
				s.advance(t, now)
				for range source.Intn(4 * (i + 1)) {
					s.add(t)
				}
			}
			for _, a := range list {
				for _, b := range list {
					checkMerge(t, a.x, b.x)
					checkBoth(t, a, b)
				}
			}
		}
	}
}

// checkBoth holds the merged answer against the items of both streams.
func checkBoth(t *testing.T, a, b *stream) {
	t.Helper()
	c, err := Merge(a.x, b.x)
	lo, hi, n := c.Lo.Num, c.Hi.Num, a.live()+b.live()
	if err != api.OK || n < lo || n > hi || int64(min(a.x.K, b.x.K))*(hi-lo) > lo {
		t.Fatalf("with %d live items, Merge(%v, %v) = %v, %d", n, a.x, b.x, c, err)
	}
}

// TestGreatestStreams fills histograms of the greatest capacity, and takes them through the window.
func TestGreatestStreams(t *testing.T) {
	for _, k := range []int{1, finest} {
		s := newStream(t, longest, k, fullest, last-longest-200)
		for n := range fullest {
			if n%1000 == 0 {
				s.x = moved(t, s.x, s.x.Now+1+int64(n)%7)
				s.check(t)
			}
			s.ticks = append(s.ticks, s.x.Now)
			s.x = added(t, s.x, 1)
		}
		s.check(t)
		if s.add(t) {
			t.Fatal("there is room behind the greatest capacity")
		}
		for now := int64(last - 220); now <= last; now++ {
			s.x = moved(t, s.x, now)
			s.check(t)
		}
		if n := s.live(); n == 0 || n == fullest || !s.add(t) {
			t.Fatalf("at the last tick, %d items are live", n)
		}
		s.check(t)
	}
}

// TestBoundsAreReached makes two streams of each histogram of items of two ticks: in one, Hi items are live, and in the other one Lo.
func TestBoundsAreReached(t *testing.T) {
	for k := 1; k <= 3; k++ {
		for n := 1; n <= 60; n++ {
			x, _ := New(5, k, 100, 10)
			lo, est, hi := between(added(t, x, n))
			// At tick 10, the first tick of the window is 6: of the first bucket, only the newest item need be so late.
			for _, early := range []int64{0, hi - lo} {
				s := newStream(t, 5, k, 100, 5)
				for i := range int64(n) {
					if i == early {
						s.advance(t, 6)
					}
					s.add(t)
				}
				s.advance(t, 10)
				s.check(t)
				asked(t, "a stream", s.x, whole(lo, est, hi))
				if s.live() != hi-early {
					t.Errorf("k %d: of %d items, %d are live, not %d", k, n, s.live(), hi-early)
				}
			}
		}
	}
}

// call is a call with a state; results that the function does not have are zero.
type call func(x api.Count) (api.Count, api.Bounds, api.Errno)

func merged(a, b api.Count) (api.Count, api.Bounds, api.Errno) {
	answer, err := Merge(a, b)
	return api.Count{}, answer, err
}

// calls returns all calls with a state.
func calls() []call {
	other := state(3, 1, 100, 6, bk(5, 1, 6, 0)...)
	all := []call{
		func(x api.Count) (api.Count, api.Bounds, api.Errno) { return api.Count{}, api.Bounds{}, Validate(x) },
		func(x api.Count) (api.Count, api.Bounds, api.Errno) {
			y, err := Add(x)
			return y, api.Bounds{}, err
		},
		func(x api.Count) (api.Count, api.Bounds, api.Errno) {
			answer, err := Ask(x)
			return api.Count{}, answer, err
		},
		func(x api.Count) (api.Count, api.Bounds, api.Errno) { return merged(x, x) },
		func(x api.Count) (api.Count, api.Bounds, api.Errno) { return merged(x, other) },
		func(x api.Count) (api.Count, api.Bounds, api.Errno) { return merged(other, x) },
	}
	for _, now := range []int64{5, 6, 7, 8, 9, last, last + 1, -1} {
		all = append(all, func(x api.Count) (api.Count, api.Bounds, api.Errno) {
			y, err := Advance(x, now)
			return y, api.Bounds{}, err
		})
	}
	return all
}

// TestArguments checks that the buckets, and the memory before and behind them, stay as they are, and that this memory does not matter.
func TestArguments(t *testing.T) {
	lists := [][]api.Bucket{nil, bk(6, 0), bk(5, 0, 6, 0), bk(4, 1, 5, 0), bk(4, 1, 5, 0, 6, 0), bk(4, 1, 5, 1, 6, 0, 6, 0), bk(4, 2, 4, 2, 5, 1, 5, 1, 6, 0, 6, 0), bk(4, 0, 4, 0, 5, 0), bk(3, 0, 6, 0), bk(5, 0, 7, 0), bk(6, 0, 5, 0), bk(5, 31), bk(5, -1), bk(5, 1)}
	for _, list := range lists {
		n := len(list)
		memory := slices.Concat(bk(9, 9, 0, -4), list, bk(5, 2, 1, -9, 7, 7, 3, 3))
		before := slices.Clone(memory)
		for i, call := range calls() {
			for _, x := range []api.Count{state(3, 1, 100, 6), state(3, 2, 100, 6), state(3, 1, max(1, n), 6), state(3, 0, 100, 6)} {
				x.Buckets = slices.Clone(list)
				want, answer, why := call(x)
				for end := 2 + n; end <= len(memory); end++ {
					x.Buckets = memory[2 : 2+n : end]
					got, b, err := call(x)
					if !same(got, want) || b != answer || err != why {
						t.Fatalf("call %d with %v = %v, %v, %d, not %v, %v, %d", i, x, got, b, err, want, answer, why)
					}
					if !slices.Equal(memory, before) {
						t.Fatalf("call %d with %v changed it, or what lies beside it: %v", i, x, memory)
					}
				}
			}
		}
	}
}

// TestBranches checks that the histograms that were made from one do not disturb each other or the one that they came from.
func TestBranches(t *testing.T) {
	source := rand.New(rand.NewSource(13))
	for _, k := range []int{1, 2, 4} {
		root := state(20, k, 60, 0)
		states, copies := []api.Count{root}, []api.Count{copied(root)}
		for range 2000 {
			from := states[source.Intn(len(states))]
			to, err := Add(from)
			if source.Intn(3) == 0 {
				to, err = Advance(from, from.Now+source.Int63n(4))
			}
			if err == api.OK {
				states, copies = append(states, to), append(copies, copied(to))
			}
			checkMerge(t, from, states[source.Intn(len(states))])
		}
		for i, x := range states {
			if !same(x, copies[i]) {
				t.Fatalf("k %d: histogram %d was %v and is %v", k, i, copies[i], x)
			}
			if !valid(x) {
				t.Fatalf("k %d: histogram %d is not valid: %v", k, i, x)
			}
		}
	}
}

// TestTwoOfOne makes two histograms from each one of a stream, by all calls.
func TestTwoOfOne(t *testing.T) {
	for _, k := range []int{1, 2, 3} {
		x := state(30, k, 100, 0)
		for n := range int64(60) {
			x = moved(t, x, n)
			origin := copied(x)
			stay, later := moved(t, x, n), moved(t, x, n+3)
			a, b, c, d := added(t, x, 1), added(t, stay, 1), added(t, later, 1), added(t, x, 20)
			e, f := added(t, later, 2), moved(t, a, n+7)
			left := slices.DeleteFunc(slices.Clone(origin.Buckets), func(b api.Bucket) bool { return b.T <= n+3-30 })
			one := inserted(origin.Buckets, k, n)
			gone := slices.DeleteFunc(slices.Clone(one), func(b api.Bucket) bool { return b.T <= n+7-30 })
			many := origin.Buckets
			for range 20 {
				many = inserted(many, k, n)
			}
			for i, p := range []struct {
				got  api.Count
				now  int64
				want []api.Bucket
			}{{x, n, origin.Buckets}, {stay, n, origin.Buckets}, {later, n + 3, left}, {a, n, one}, {b, n, one}, {c, n + 3, inserted(left, k, n+3)}, {d, n, many}, {e, n + 3, inserted(inserted(left, k, n+3), k, n+3)}, {f, n + 7, gone}} {
				if !same(p.got, state(30, k, 100, p.now, p.want...)) {
					t.Fatalf("k %d, after %d items: histogram %d is %v, not %v", k, n, i, p.got, p.want)
				}
			}
			x = a
		}
	}
}
